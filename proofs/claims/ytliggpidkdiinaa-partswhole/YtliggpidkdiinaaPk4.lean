/- Package parts: ks, finest, pairs, plus, wider. The reference's Power: powers of 2. Package pcm's In, and the reference's. Package cost: Bits, Width, Each. Package cost: rawBits, Each; a part in memory. Package cost: bestK. -/
import Derived.Test.YtliggpidkdiinaaPk3
import Derived.Test.YtliggpidkdiinaaPk1
import Derived.Test.YtliggpidkdiinaaPk2

namespace Go.Proofs.Ytliggpidkdiinaa
open Go.RowKit Bx

theorem ks_any (b : Bool) (w : World) : Calls Try.prog 18 #[.bool b] w fun e w' => e = .returned (.tuple #[.int .i64 (wM b : Int), .int .i64 (wA b : Int)]) ∧ w' = w := by
  cases b
  all_goals
    go_enter Try.func18, Try.ntmps18
    go_wp2
    go_ret2
    exact ⟨rfl, rfl⟩

theorem plus_any (a b : Nat) (w : World) (ha : a ≤ 2000000000000000000) (hb : b ≤ 2000000000000000000) : Calls Try.prog 42 #[.int .i64 (a : Int), .int .i64 (b : Int)] w fun e w' => e = .returned (.int .i64 ((a + b : Nat) : Int)) ∧ w' = w := by
  have h : wrap64 ((a : Int) + (b : Int)) = ((a + b : Nat) : Int) := by rw [w64_in _ (by omega)]; omega
  have H := Lib.hid h
  clear ha hb h
  go_enter Try.func42, Try.ntmps42
  go_wp2
  go_ret
  exact ⟨by rw [← H.out]; rfl, rfl⟩

theorem wider_any (a b : Nat) (w : World) (_ha : a ≤ 2000000000000000000) (_hb : b ≤ 2000000000000000000) : Calls Try.prog 43 #[.int .i64 (a : Int), .int .i64 (b : Int)] w fun e w' => e = .returned (.int .i64 ((max a b : Nat) : Int)) ∧ w' = w := by
  clear _ha _hb
  by_cases hlt : a < b
  · have h2 : max a b = b := by omega
    have hd : decide ((a : Int) < (b : Int)) = true := decide_eq_true (by omega)
    rw [h2]
    go_enter Try.func43, Try.ntmps43
    go_wp2
    go_ret
    exact ⟨rfl, rfl⟩
  · have h2 : max a b = a := by omega
    have hd : decide ((a : Int) < (b : Int)) = false := decide_eq_false (by omega)
    rw [h2]
    go_enter Try.func43, Try.ntmps43
    go_wp2
    go_ret
    exact ⟨rfl, rfl⟩

def FinInv (n k most : Nat) (w : World) (a : Act) (w' : World) : Prop :=
  a.defers = [] ∧ a.tmps.size = 23 ∧ a.tmps[0]? = some (.int .i64 (n : Int)) ∧ a.tmps[1]? = some (.int .i64 (k : Int)) ∧ a.tmps[2]? = some (.int .i64 (most : Int)) ∧ ∃ o : Nat, o ≤ most ∧ a.tmps[7]? = some (.int .i64 (o : Int)) ∧ cutOk n k o = true ∧ Kept Nix w w'

set_option maxRecDepth 10000 in
set_option maxHeartbeats 1000000 in
theorem finest_any (n k most : Nat) (w : World) (h0 : 0 < n) (hn : n ≤ 1048576) (hk : k ≤ 1099511627776) (hm : most ≤ 1000000) :
    Calls Try.prog 17 #[.int .i64 (n : Int), .int .i64 (k : Int), .int .i64 (most : Int)] w fun e w' => e = .returned (.int .i64 (fin n k most : Int)) ∧ Kept Nix w w' := by
  have H0 := Lib.hid (And.intro h0 hn)
  have HKM := Lib.hid (And.intro hk hm)
  have C0 := Lib.hid (cutOk_zero k h0)
  clear h0 hn hk hm
  go_enter Try.func17, Try.ntmps17
  go_wp2
  refine wp_loop (FinInv n k most w) (fun a _ => most - (intOf (a.tmps.getD 7 undef)).toNat) ?_ ?_
  · exact ⟨rfl, rfl, rfl, rfl, rfl, 0, Nat.zero_le _, rfl, C0.out, Kept.refl _ _⟩
  · rintro ⟨tm, df⟩ w1 ⟨rfl, hs, e0, e1, e2, o, ho, e7, hok, hk⟩
    simp only at hs e0 e1 e2 e7
    obtain ⟨f, hf, hg⟩ := fr_open hs
    have g0 := hg _ _ e0
    have g1 := hg _ _ e1
    have g2 := hg _ _ e2
    have g7 := hg _ _ e7
    simp only [List.range, List.range.loop, List.map] at hf
    rw [g0, g1, g2, g7] at hf
    clear g0 g1 g2 g7 hg hs e0 e1 e2 e7
    subst hf
    have HOK := Lib.hid hok
    have HK := Lib.hid hk
    clear hok hk
    by_cases hlt : o < most
    · have hdd : decide (o < most) = true := decide_eq_true hlt
      have hw : wrap64 ((o : Int) + 1) = ((o + 1 : Nat) : Int) := by have := HKM.out; rw [w64_in _ (by omega)]; omega
      have CU := Lib.hid (pcuts_any n (k : Int) ((o + 1 : Nat) : Int) w1 H0.out.2 (by have := HKM.out; omega))
      unfold CutsPost at CU
      rw [ctI_nat] at CU
      have HO := Lib.hid hlt
      have HW := Lib.hid hw
      cases hc : cutOk n k (o + 1) with
      | true =>
        have hln := cts_length hc
        have hp := Nat.two_pow_pos (o + 1)
        rw [← hln] at hp
        generalize cts n k (o + 1) = C at *
        obtain ⟨m, hm⟩ : ∃ m, C.length = m := ⟨_, rfl⟩
        rw [hm] at CU hp
        have t1 : decide (0 < m) = true := decide_eq_true hp
        have HC := Lib.hid hc
        clear hln hp hm ho hlt hc
        generalize ho1 : o + 1 = o1 at *
        go_upto_region 3 with (go_at_call 12; refine CU.out.mono ?_; rintro e w2 ⟨u2, rfl, ho2, k2⟩; obtain ⟨uo, uc, rfl, -⟩ := owns_shape ho2; have K2 := Lib.hid k2; clear ho2 k2 CU)
        subst ho1
        clear hw
        go_wp2
        rw [HW.out]
        exact ⟨⟨rfl, rfl, rfl, rfl, rfl, o + 1, HO.out, rfl, HC.out, nix_trans HK.out K2.out⟩, nearer HO.out rfl⟩
      | false =>
        rw [cts_none hc] at CU
        have HF := Lib.hid (fin_eq H0.out.1 (Nat.le_of_lt hlt) HOK.out (.inr hc))
        clear ho hlt hc
        generalize ho1 : o + 1 = o1 at *
        go_wp2_with (go_at_call 12; refine CU.out.mono ?_; rintro e w2 ⟨u2, rfl, ho2, k2⟩; obtain ⟨uo, uc, rfl, -⟩ := owns_shape ho2; have K2 := Lib.hid k2; clear ho2 k2 CU)
        go_ret
        exact ⟨by rw [HF.out]; rfl, nix_trans HK.out K2.out⟩
    · have hie : o = most := by omega
      subst hie
      have hdd : decide (o < o) = false := decide_eq_false hlt
      have HF := Lib.hid (fin_eq H0.out.1 (Nat.le_refl o) HOK.out (.inl rfl))
      clear hlt ho
      go_wp2
      go_ret
      exact ⟨by rw [HF.out]; rfl, HK.out⟩

def PrplusInv (v : Value) (g h : Nat) (C : List Nat) (w : World) (a : Act) (w' : World) : Prop :=
  a.defers = [] ∧ a.tmps.size = 34 ∧ a.tmps[0]? = some v ∧ a.tmps[1]? = some (.func (.func 42) #[] #[]) ∧ a.tmps[5]? = some (.slice (some ⟨g, 0, none⟩) h h) ∧ a.tmps[12]? = some (.int .i64 (h : Int)) ∧
  ∃ i : Nat, i ≤ h ∧ a.tmps[13]? = some (.int .i64 (i : Int)) ∧ w'.ownsRow g 3 1 (.slice (some ⟨g, 0, none⟩) h h) h (ivs (fill (ni (prN (· + ·) C)) i)) ∧ Kept Nix w w'

set_option maxRecDepth 10000 in
set_option maxHeartbeats 2000000 in
theorem pairs_plus (v : Value) (C : List Nat) (w : World) (hv : Sl w v (ivs (ni C))) (hl : C.length ≤ 32768) (hb : ∀ i, C.getD i 0 ≤ 2000000000000000000) :
    Calls Try.prog 41 #[v, .func (.func 42) #[] #[]] w fun e w' => ∃ u, e = .returned u ∧ w'.ownsRow w.heap.size 3 1 u (prN (· + ·) C).length (ivs (ni (prN (· + ·) C))) ∧ Kept Nix w w' := by
  obtain ⟨ao, ca, rfl, -⟩ := hv.ints
  rw [ni_length] at hv ⊢
  obtain ⟨h, hh⟩ : ∃ h, C.length / 2 = h := ⟨_, rfl⟩
  have hpl := prN_length (· + ·) C
  rw [hh] at hpl
  have e1 : wrap64 ((C.length : Int).tdiv 2) = (h : Int) := by rw [Int.tdiv_eq_ediv_of_nonneg (by omega), w64_in _ (by omega)]; omega
  have e1b : (C.length : Int).tdiv 2 = (h : Int) := by rw [Int.tdiv_eq_ediv_of_nonneg (by omega)]; omega
  have e1c : (C.length : Int) / 2 = (h : Int) := by omega
  have e0 : wrap64 (h : Int) = (h : Int) := small_i h (by omega)
  have hmk := make_int h (by omega) w
  have HO := Lib.hid (show (w.alloc (.cells (ivs (List.replicate h 0)).toArray 3)).ownsRow w.heap.size 3 1 (.slice (some ⟨w.heap.size, 0, none⟩) h h) h (ivs (fill (ni (prN (· + ·) C)) 0)) by
    rw [fill_zero, ni_length, hpl]
    exact lit_base w w.heap.size (Nat.le_refl _) (List.replicate h 0) h (by simp) (by simp only [maxLen]; omega))
  have K1 := Lib.hid (show Kept Nix w (w.alloc (.cells (ivs (List.replicate h 0)).toArray 3)) from (Kept.refl _ _).alloc _)
  rw [hpl]
  have HV := Lib.hid hv
  have HB := Lib.hid hb
  have HL := Lib.hid (And.intro hl hh)
  have HPL := Lib.hid hpl
  clear hv hb hl hh hpl
  obtain ⟨m, hm⟩ : ∃ m, C.length = m := ⟨_, rfl⟩
  have HM := Lib.hid hm
  rw [hm] at e1 e1b e1c ⊢
  clear hm
  go_enter Try.func41, Try.ntmps41
  go_upto_region 2 with fail
  clear hmk e0 e1 e1b e1c
  have HG := Lib.hid (Nat.le_refl w.heap.size)
  generalize w.alloc (.cells (ivs (List.replicate h 0)).toArray 3) = w1 at *
  obtain ⟨g, hg⟩ : ∃ g, w.heap.size = g := ⟨_, rfl⟩
  have HGE := Lib.hid hg
  rw [hg] at HO HG ⊢
  clear hg
  go_wp2
  refine wp_loop (PrplusInv (.slice ao m ca) g h C w) (fun a _ => h - (intOf (a.tmps.getD 13 undef)).toNat) ?_ ?_
  · exact ⟨rfl, rfl, rfl, rfl, rfl, rfl, 0, Nat.zero_le _, rfl, HO.out, K1.out⟩
  · clear HO K1
    rintro ⟨tm, df⟩ w2 ⟨rfl, hs, e0, e1, e5, e12, i, hi, e13, ho, hk⟩
    simp only at hs e0 e1 e5 e12 e13
    obtain ⟨f, hf, hg⟩ := fr_open hs
    have g0 := hg _ _ e0
    have g1 := hg _ _ e1
    have g5 := hg _ _ e5
    have g12 := hg _ _ e12
    have g13 := hg _ _ e13
    simp only [List.range, List.range.loop, List.map] at hf
    rw [g0, g1, g5, g12, g13] at hf
    clear g0 g1 g5 g12 g13 hg hs e0 e1 e5 e12 e13
    subst hf
    have HO := Lib.hid ho
    have HK := Lib.hid hk
    clear ho hk
    by_cases hlt : i < h
    · have hdd : decide (i < h) = true := decide_eq_true hlt
      have hi1 : (i : Int) < (h : Int) := by omega
      have hmi := HL.out
      rw [HM.out] at hmi
      obtain ⟨b1, o1, rfl, hc1⟩ := cell_kept HV.out (2 * i) (by rw [ni_length, HM.out]; omega)
      obtain ⟨b2, o2, hbe, hc2⟩ := cell_kept HV.out (2 * i + 1) (by rw [ni_length, HM.out]; omega)
      simp only [Option.some.injEq, Addr.mk.injEq, and_true] at hbe
      obtain ⟨rfl, rfl⟩ := hbe
      have x1 := hc1 _ HK.out.drew
      have x2 := hc2 _ HK.out.drew
      rw [ni_get] at x1 x2
      have ba := HB.out (2 * i)
      have bb := HB.out (2 * i + 1)
      have hpg := prN_get (· + ·) C i (by rw [HM.out]; omega)
      have j1 : (2 * i : Int) < (m : Int) := by omega
      have j2 : ((2 * i + 1 : Nat) : Int) < (m : Int) := by omega
      have w1' : IntKind.i64.wrap (2 * (i : Int)) = ((2 * i : Nat) : Int) := by rw [IntWalk.i64_in _ (by omega)]; omega
      have w2' : IntKind.i64.wrap (((2 * i : Nat) : Int) + 1) = ((2 * i + 1 : Nat) : Int) := by rw [IntWalk.i64_in _ (by omega)]; omega
      obtain ⟨z, hz⟩ := fill_cell HO.out (by rw [ni_length]; exact HPL.out) hlt
      have y0 : w2.drew.cell? ⟨g, i, none⟩ = some z := hz
      have z0 : w2.drew.frozen? ⟨g, i, none⟩ = false := HO.out.frozenAt i
      have HST := Lib.hid (fill_set (ni (prN (· + ·) C)) i (by rw [ni_length, HPL.out]; exact hlt))
      rw [ni_get, hpg] at HST
      have HI := Lib.hid hlt
      have HW := Lib.hid (show wrap64 ((i : Int) + 1) = ((i + 1 : Nat) : Int) by rw [w64_in _ (by omega)]; omega)
      have PL := Lib.hid (fun w => plus_any (C.getD (2 * i) 0) (C.getD (2 * i + 1) 0) w ba bb)
      generalize C.getD (2 * i) 0 = ca1 at *
      generalize C.getD (2 * i + 1) 0 = ca2 at *
      obtain ⟨p, hp⟩ : ∃ p, 2 * i = p := ⟨_, rfl⟩
      obtain ⟨q, hq⟩ : ∃ q, 2 * i + 1 = q := ⟨_, rfl⟩
      have j1 : (p : Int) < (m : Int) := by omega
      have j2 : (q : Int) < (m : Int) := by omega
      rw [hq] at x2 w2'
      rw [hp] at x1 w1' w2'
      have jp : p < m := by omega
      have jq : q < m := by omega
      clear hc1 hc2 ba bb hpg hz hlt hi hp hq hmi
      go_upto_region 5 with fail
      go_region_law
        (first | (go_simp; go_at_call 42; refine (PL.out _).mono ?_; rintro e w5 ⟨rfl, rfl⟩; clear PL))
      all_goals
        clear x1 x2 y0 z0 w1' w2'
        go_wp2
        rw [HW.out]
        refine ⟨⟨rfl, rfl, rfl, rfl, rfl, rfl, i + 1, HI.out, rfl, ?_, ?_⟩, nearer HI.out rfl⟩
        · rw [← HST.out, ← ivs_set]
          exact (HO.out.stored i _).1
        · exact (kept_set_new HK.out (Nat.le_of_eq HGE.out) _).drew
    · have hie : i = h := by omega
      subst hie
      have hdd : decide (i < i) = false := decide_eq_false hlt
      clear hlt hi
      have HO2 := HO.out
      rw [show fill (ni (prN (· + ·) C)) i = ni (prN (· + ·) C) by have := fill_last (ni (prN (· + ·) C)); rwa [ni_length, HPL.out] at this] at HO2
      have HO2 := Lib.hid HO2
      go_wp2
      go_ret
      exact ⟨_, rfl, by rw [HGE.out]; exact HO2.out, HK.out⟩

def PrwiderInv (v : Value) (g h : Nat) (C : List Nat) (w : World) (a : Act) (w' : World) : Prop :=
  a.defers = [] ∧ a.tmps.size = 34 ∧ a.tmps[0]? = some v ∧ a.tmps[1]? = some (.func (.func 43) #[] #[]) ∧ a.tmps[5]? = some (.slice (some ⟨g, 0, none⟩) h h) ∧ a.tmps[12]? = some (.int .i64 (h : Int)) ∧
  ∃ i : Nat, i ≤ h ∧ a.tmps[13]? = some (.int .i64 (i : Int)) ∧ w'.ownsRow g 3 1 (.slice (some ⟨g, 0, none⟩) h h) h (ivs (fill (ni (prN max C)) i)) ∧ Kept Nix w w'

set_option maxRecDepth 10000 in
set_option maxHeartbeats 2000000 in
theorem pairs_wider (v : Value) (C : List Nat) (w : World) (hv : Sl w v (ivs (ni C))) (hl : C.length ≤ 32768) (hb : ∀ i, C.getD i 0 ≤ 2000000000000000000) :
    Calls Try.prog 41 #[v, .func (.func 43) #[] #[]] w fun e w' => ∃ u, e = .returned u ∧ w'.ownsRow w.heap.size 3 1 u (prN max C).length (ivs (ni (prN max C))) ∧ Kept Nix w w' := by
  obtain ⟨ao, ca, rfl, -⟩ := hv.ints
  rw [ni_length] at hv ⊢
  obtain ⟨h, hh⟩ : ∃ h, C.length / 2 = h := ⟨_, rfl⟩
  have hpl := prN_length max C
  rw [hh] at hpl
  have e1 : wrap64 ((C.length : Int).tdiv 2) = (h : Int) := by rw [Int.tdiv_eq_ediv_of_nonneg (by omega), w64_in _ (by omega)]; omega
  have e1b : (C.length : Int).tdiv 2 = (h : Int) := by rw [Int.tdiv_eq_ediv_of_nonneg (by omega)]; omega
  have e1c : (C.length : Int) / 2 = (h : Int) := by omega
  have e0 : wrap64 (h : Int) = (h : Int) := small_i h (by omega)
  have hmk := make_int h (by omega) w
  have HO := Lib.hid (show (w.alloc (.cells (ivs (List.replicate h 0)).toArray 3)).ownsRow w.heap.size 3 1 (.slice (some ⟨w.heap.size, 0, none⟩) h h) h (ivs (fill (ni (prN max C)) 0)) by
    rw [fill_zero, ni_length, hpl]
    exact lit_base w w.heap.size (Nat.le_refl _) (List.replicate h 0) h (by simp) (by simp only [maxLen]; omega))
  have K1 := Lib.hid (show Kept Nix w (w.alloc (.cells (ivs (List.replicate h 0)).toArray 3)) from (Kept.refl _ _).alloc _)
  rw [hpl]
  have HV := Lib.hid hv
  have HB := Lib.hid hb
  have HL := Lib.hid (And.intro hl hh)
  have HPL := Lib.hid hpl
  clear hv hb hl hh hpl
  obtain ⟨m, hm⟩ : ∃ m, C.length = m := ⟨_, rfl⟩
  have HM := Lib.hid hm
  rw [hm] at e1 e1b e1c ⊢
  clear hm
  go_enter Try.func41, Try.ntmps41
  go_upto_region 2 with fail
  clear hmk e0 e1 e1b e1c
  have HG := Lib.hid (Nat.le_refl w.heap.size)
  generalize w.alloc (.cells (ivs (List.replicate h 0)).toArray 3) = w1 at *
  obtain ⟨g, hg⟩ : ∃ g, w.heap.size = g := ⟨_, rfl⟩
  have HGE := Lib.hid hg
  rw [hg] at HO HG ⊢
  clear hg
  go_wp2
  refine wp_loop (PrwiderInv (.slice ao m ca) g h C w) (fun a _ => h - (intOf (a.tmps.getD 13 undef)).toNat) ?_ ?_
  · exact ⟨rfl, rfl, rfl, rfl, rfl, rfl, 0, Nat.zero_le _, rfl, HO.out, K1.out⟩
  · clear HO K1
    rintro ⟨tm, df⟩ w2 ⟨rfl, hs, e0, e1, e5, e12, i, hi, e13, ho, hk⟩
    simp only at hs e0 e1 e5 e12 e13
    obtain ⟨f, hf, hg⟩ := fr_open hs
    have g0 := hg _ _ e0
    have g1 := hg _ _ e1
    have g5 := hg _ _ e5
    have g12 := hg _ _ e12
    have g13 := hg _ _ e13
    simp only [List.range, List.range.loop, List.map] at hf
    rw [g0, g1, g5, g12, g13] at hf
    clear g0 g1 g5 g12 g13 hg hs e0 e1 e5 e12 e13
    subst hf
    have HO := Lib.hid ho
    have HK := Lib.hid hk
    clear ho hk
    by_cases hlt : i < h
    · have hdd : decide (i < h) = true := decide_eq_true hlt
      have hi1 : (i : Int) < (h : Int) := by omega
      have hmi := HL.out
      rw [HM.out] at hmi
      obtain ⟨b1, o1, rfl, hc1⟩ := cell_kept HV.out (2 * i) (by rw [ni_length, HM.out]; omega)
      obtain ⟨b2, o2, hbe, hc2⟩ := cell_kept HV.out (2 * i + 1) (by rw [ni_length, HM.out]; omega)
      simp only [Option.some.injEq, Addr.mk.injEq, and_true] at hbe
      obtain ⟨rfl, rfl⟩ := hbe
      have x1 := hc1 _ HK.out.drew
      have x2 := hc2 _ HK.out.drew
      rw [ni_get] at x1 x2
      have ba := HB.out (2 * i)
      have bb := HB.out (2 * i + 1)
      have hpg := prN_get max C i (by rw [HM.out]; omega)
      have j1 : (2 * i : Int) < (m : Int) := by omega
      have j2 : ((2 * i + 1 : Nat) : Int) < (m : Int) := by omega
      have w1' : IntKind.i64.wrap (2 * (i : Int)) = ((2 * i : Nat) : Int) := by rw [IntWalk.i64_in _ (by omega)]; omega
      have w2' : IntKind.i64.wrap (((2 * i : Nat) : Int) + 1) = ((2 * i + 1 : Nat) : Int) := by rw [IntWalk.i64_in _ (by omega)]; omega
      obtain ⟨z, hz⟩ := fill_cell HO.out (by rw [ni_length]; exact HPL.out) hlt
      have y0 : w2.drew.cell? ⟨g, i, none⟩ = some z := hz
      have z0 : w2.drew.frozen? ⟨g, i, none⟩ = false := HO.out.frozenAt i
      have HST := Lib.hid (fill_set (ni (prN max C)) i (by rw [ni_length, HPL.out]; exact hlt))
      rw [ni_get, hpg] at HST
      have HI := Lib.hid hlt
      have HW := Lib.hid (show wrap64 ((i : Int) + 1) = ((i + 1 : Nat) : Int) by rw [w64_in _ (by omega)]; omega)
      have PL := Lib.hid (fun w => wider_any (C.getD (2 * i) 0) (C.getD (2 * i + 1) 0) w ba bb)
      generalize C.getD (2 * i) 0 = ca1 at *
      generalize C.getD (2 * i + 1) 0 = ca2 at *
      obtain ⟨p, hp⟩ : ∃ p, 2 * i = p := ⟨_, rfl⟩
      obtain ⟨q, hq⟩ : ∃ q, 2 * i + 1 = q := ⟨_, rfl⟩
      have j1 : (p : Int) < (m : Int) := by omega
      have j2 : (q : Int) < (m : Int) := by omega
      rw [hq] at x2 w2'
      rw [hp] at x1 w1' w2'
      have jp : p < m := by omega
      have jq : q < m := by omega
      clear hc1 hc2 ba bb hpg hz hlt hi hp hq hmi
      go_upto_region 5 with fail
      go_region_law
        (first | (go_simp; go_at_call 43; refine (PL.out _).mono ?_; rintro e w5 ⟨rfl, rfl⟩; clear PL))
      all_goals
        clear x1 x2 y0 z0 w1' w2'
        go_wp2
        rw [HW.out]
        refine ⟨⟨rfl, rfl, rfl, rfl, rfl, rfl, i + 1, HI.out, rfl, ?_, ?_⟩, nearer HI.out rfl⟩
        · rw [← HST.out, ← ivs_set]
          exact (HO.out.stored i _).1
        · exact (kept_set_new HK.out (Nat.le_of_eq HGE.out) _).drew
    · have hie : i = h := by omega
      subst hie
      have hdd : decide (i < i) = false := decide_eq_false hlt
      clear hlt hi
      have HO2 := HO.out
      rw [show fill (ni (prN max C)) i = ni (prN max C) by have := fill_last (ni (prN max C)); rwa [ni_length, HPL.out] at this] at HO2
      have HO2 := Lib.hid HO2
      go_wp2
      go_ret
      exact ⟨_, rfl, by rw [HGE.out]; exact HO2.out, HK.out⟩

end Go.Proofs.Ytliggpidkdiinaa

namespace Go.Proofs.Ytliggpidkdiinaa
open Go.RowKit Bx

theorem rpow_61 (n : Nat) (h : n ≤ 61) : 1 ≤ (2 : Int) ^ n ∧ (2 : Int) ^ n ≤ 2305843009213693952 := by
  have h1 := Nat.pow_le_pow_right (show 0 < 2 by decide) h
  have h2 := Nat.two_pow_pos n
  have e : ((2 ^ n : Nat) : Int) = (2 : Int) ^ n := by simp
  rw [← e]
  omega

def RPowInv (n : Nat) (w : World) (a : Act) (w' : World) : Prop :=
  a.defers = [] ∧ a.tmps.size = 13 ∧ a.tmps[0]? = some (.int .i64 (n : Int)) ∧ ∃ i : Nat, i ≤ n ∧ a.tmps[4]? = some (.int .i64 (i : Int)) ∧ a.tmps[3]? = some (.int .i64 (2 ^ i)) ∧ w' = w

theorem rpow_step (i : Nat) (h : i ≤ 60) : wrap64 (2 * 2 ^ i) = 2 ^ (i + 1) := by
  have := rpow_61 i (by omega)
  rw [Int.pow_succ, Int.mul_comm ((2 : Int) ^ i)]
  generalize (2 : Int) ^ i = t at *
  exact w64_in _ (by omega)

set_option maxHeartbeats 400000 in
theorem rpower_any (n : Nat) (hn : n ≤ 61) (w : World) : Calls Try.prog 44 #[.int .i64 (n : Int)] w fun e w' => e = .returned (.int .i64 (2 ^ n)) ∧ w' = w := by
  go_enter Try.func44, Try.ntmps44
  go_wp2
  refine wp_loop (RPowInv n w) (fun a _ => n - (intOf (a.tmps.getD 4 undef)).toNat) ?_ ?_
  · exact ⟨rfl, rfl, rfl, 0, Nat.zero_le _, rfl, by simp, rfl⟩
  · rintro ⟨tm, df⟩ w1 ⟨rfl, hs, e0, i, hi, e4, e3, rfl⟩
    simp only at hs e0 e4 e3
    obtain ⟨f, hf, hg⟩ := fr_open hs
    have g0 := hg _ _ e0
    have g4 := hg _ _ e4
    have g3 := hg _ _ e3
    simp only [List.range, List.range.loop, List.map] at hf
    rw [g0, g4, g3] at hf
    clear g0 g4 g3 hg hs e0 e4 e3
    subst hf
    by_cases hlt : i < n
    · have hd : decide ((i : Int) < (n : Int)) = true := decide_eq_true (by omega)
      have hw := rpow_step i (by omega)
      generalize hp : (2 : Int) ^ i = p at *
      generalize hp2 : (2 : Int) ^ (i + 1) = p2 at *
      have HP := Lib.hid hp2
      clear hp hp2
      go_wp2
      rw [hw]
      refine ⟨⟨rfl, rfl, rfl, i + 1, hlt, by simp, ?_, rfl⟩, ?_⟩
      · rw [HP.out]; rfl
      · simp [intOf]; omega
    · have hin : i = n := by omega
      subst hin
      have hd : decide ((i : Int) < (i : Int)) = false := by simp
      clear hlt hi
      go_wp2
      go_ret
      exact ⟨rfl, rfl⟩

end Go.Proofs.Ytliggpidkdiinaa

namespace Go.Proofs.Ytliggpidkdiinaa
open Go.RowKit Bx

theorem pow_61 (k : Nat) (h : k ≤ 61) : (1 : Int) ≤ 2 ^ k ∧ (2 : Int) ^ k ≤ 2305843009213693952 := by
  have h1 : 2 ^ k ≤ 2305843009213693952 := Nat.le_trans (Nat.pow_le_pow_right (show 0 < 2 by omega) h) (by decide)
  have h2 := Nat.one_le_two_pow (n := k)
  have e : (2 : Int) ^ k = ((2 ^ k : Nat) : Int) := by simp
  rw [e]
  generalize 2 ^ k = x at *
  omega

theorem in_out (n d : Int) (h : d < 1 ∨ 62 < d) : inD n d = false := by
  unfold inD
  rcases h with h | h
  · rw [decide_eq_false (show ¬ (1 ≤ d) by omega)]; rfl
  · rw [decide_eq_false (show ¬ (d ≤ 62) by omega)]; simp

theorem in_some (n d : Int) (h1 : 1 ≤ d) (h2 : d ≤ 62) : inD n d = (decide (-(2 : Int) ^ (d.toNat - 1) ≤ n) && decide (n < (2 : Int) ^ (d.toNat - 1))) := by
  unfold inD
  rw [decide_eq_true h1, decide_eq_true h2]; rfl

theorem wrap_half (d : Int) (h1 : 1 ≤ d) (h2 : d ≤ 62) : wrap64 (2 ^ (d.toNat - 1)) = 2 ^ (d.toNat - 1) ∧ wrap64 (-2 ^ (d.toNat - 1)) = -2 ^ (d.toNat - 1) := by
  have := pow_61 (d.toNat - 1) (by omega)
  exact ⟨w64_in _ (by omega), w64_in _ (by omega)⟩

theorem in_any (n d : Int) (w : World) : Calls Try.prog 30 #[.int .i64 n, .int .i64 d] w fun e w' => e = .returned (.bool (inD n d)) ∧ w' = w := by
  by_cases hd : d < 1 ∨ 62 < d
  · rw [in_out n d hd]
    go_enter Try.func30, Try.ntmps30
    go_wp2
    all_goals first
      | (go_ret; exact ⟨rfl, rfl⟩)
      | (exfalso; omega)
  · have h1 : 1 ≤ d := by omega
    have h2 : d ≤ 62 := by omega
    clear hd
    obtain ⟨e1, e2⟩ := wrap_half d h1 h2
    rw [in_some n d h1 h2]
    have ht : (decide (d < 1) || decide (62 < d)) = false := by simp; omega
    go_enter Try.func30, Try.ntmps30
    go_wp2
    · rename_i h
      go_ret
      rw [decide_eq_true h]
      exact ⟨rfl, rfl⟩
    · rename_i h
      go_ret
      rw [decide_eq_false (show ¬ (-2 ^ (d.toNat - 1) ≤ n) by omega)]
      exact ⟨rfl, rfl⟩

theorem rin_any (n d : Int) (w : World) : Calls Try.prog 53 #[.int .i64 n, .int .i64 d] w fun e w' => e = .returned (.bool (inD n d)) ∧ w' = w := by
  by_cases hd : d < 1 ∨ 62 < d
  · rw [in_out n d hd]
    go_enter Try.func53, Try.ntmps53
    go_wp2_with fail
    all_goals first
      | (go_ret; exact ⟨rfl, rfl⟩)
      | (exfalso; omega)
  · have h1 : 1 ≤ d := by omega
    have h2 : d ≤ 62 := by omega
    clear hd
    obtain ⟨e1, e2⟩ := wrap_half d h1 h2
    obtain ⟨D, rfl⟩ : ∃ D : Nat, d = (D : Int) := ⟨d.toNat, by omega⟩
    rw [in_some n D h1 h2]
    have HP := rpower_any (D - 1) (by omega)
    rw [show ((D - 1 : Nat) : Int) = (D : Int) - 1 by omega] at HP
    simp only [Int.toNat_natCast] at e1 e2 ⊢
    obtain ⟨T, hT⟩ : ∃ T : Int, (2 : Int) ^ (D - 1) = T := ⟨_, rfl⟩
    simp only [hT] at HP e1 e2 ⊢
    clear hT
    have ht : (decide ((D : Int) < 1) || decide (62 < (D : Int))) = false := by simp; omega
    go_enter Try.func53, Try.ntmps53
    go_wp2_with (go_at_call 44; refine (HP _).mono ?_; rintro e w1 ⟨rfl, rfl⟩)
    · rename_i h
      go_ret
      rw [decide_eq_true h]
      exact ⟨rfl, rfl⟩
    · rename_i h
      go_ret
      rw [decide_eq_false (show ¬ (-T ≤ n) by omega)]
      exact ⟨rfl, rfl⟩

end Go.Proofs.Ytliggpidkdiinaa

namespace Go.Proofs.Ytliggpidkdiinaa
open Go.RowKit Bx

def CBInv (v : Value) (L : List Int) (k : Int) (w : World) (a : Act) (w' : World) : Prop :=
  a.defers = [] ∧ a.tmps.size = 25 ∧ a.tmps[1]? = some (.int .i64 k) ∧ a.tmps[9]? = some v ∧ a.tmps[10]? = some (.int .i64 (L.length : Int)) ∧ ∃ i : Nat, i ≤ L.length ∧ a.tmps[11]? = some (.int .i64 (i : Int)) ∧ a.tmps[5]? = some (.int .i64 (sN (L.take i) (kk k) : Int)) ∧ nrs (L.take i) = true ∧ w' = w

theorem cb_nums {L : List Int} {i : Nat} {k : Int} (hi : i < L.length) (hl : L.length ≤ 1048576) (hn : nrs (L.take i) = true) (h : nr (L.getD i 0) = true) :
    wrap64 ((sN (L.take i) (kk k) : Int) + sz (L.getD i 0) k) = (sN (L.take (i + 1)) (kk k) : Int) ∧ wrap64 ((i : Int) + 1) = ((i + 1 : Nat) : Int) ∧ decide (sz (L.getD i 0) k < 0) = false := by
  have h1 := sN_big (nrs_step hn hi h) (by simp; omega) (kk k) (kk_le k)
  have h2 := sN_step hi (kk k)
  have e : sz (L.getD i 0) k = ((fd (L.getD i 0) / 2 ^ kk k : Nat) : Int) + 1 + (kk k : Int) := by simp only [sz, h, if_true]
  rw [e]
  generalize fd (L.getD i 0) / 2 ^ kk k = x at *
  generalize kk k = y at *
  refine ⟨?_, ?_, by rw [decide_eq_false_iff_not]; omega⟩
  · rw [w64_in _ (by omega)]; omega
  · rw [w64_in _ (by omega)]; omega

set_option maxHeartbeats 1000000 in
theorem cbits_any (v : Value) (L : List Int) (k : Int) (w : World) (hv : Sl w v (ivs L)) (hl : L.length ≤ 1048576) :
    Calls Try.prog 31 #[v, .int .i64 k] w fun e w' => e = .returned (.int .i64 (cbits L k)) ∧ w' = w := by
  obtain ⟨ao, ca, rfl, -⟩ := hv.ints
  have HV := Lib.hid hv
  have HL := Lib.hid hl
  have HE := Lib.hid (show cbits L k = if nrs L = true then (sN L (kk k) : Int) else -1 from rfl)
  generalize cbits L k = q at *
  clear hv hl
  go_enter Try.func31, Try.ntmps31
  go_wp2
  refine wp_loop (CBInv (.slice ao L.length ca) L k w) (fun a _ => L.length - (intOf (a.tmps.getD 11 undef)).toNat) ?_ ?_
  · exact ⟨rfl, rfl, rfl, rfl, rfl, 0, Nat.zero_le _, rfl, rfl, rfl, rfl⟩
  · rintro ⟨tm, df⟩ w1 ⟨rfl, hs, e1, e9, e10, i, hi, e11, e5, hn, rfl⟩
    simp only at hs e1 e9 e10 e11 e5
    obtain ⟨f, hf, hg⟩ := fr_open hs
    have g1 := hg _ _ e1
    have g9 := hg _ _ e9
    have g10 := hg _ _ e10
    have g11 := hg _ _ e11
    have g5 := hg _ _ e5
    simp only [List.range, List.range.loop, List.map] at hf
    rw [g1, g9, g10, g11, g5] at hf
    clear g1 g9 g10 g11 g5 hg hs e1 e9 e10 e11 e5
    subst hf
    have HN := Lib.hid hn
    clear hn
    by_cases hlt : i < L.length
    · obtain ⟨b1, o1, rfl, hc1⟩ := cell_kept HV.out i hlt
      have x1 := hc1 _ (Kept.refl _ _)
      have hdd : decide (i < L.length) = true := decide_eq_true hlt
      have hi1 : (i : Int) < (L.length : Int) := by omega
      have HI := Lib.hid hlt
      have SZ := Lib.hid (size_any (L.getD i 0) k w1)
      clear hc1
      cases hr : nr (L.getD i 0) with
      | true =>
        obtain ⟨m1, m2, m3⟩ := cb_nums (k := k) hlt HL.out HN.out hr
        have HN2 := Lib.hid (nrs_step HN.out hlt hr)
        have M := Lib.hid (And.intro m1 m2)
        clear hlt hi hr m1 m2
        generalize sz (L.getD i 0) k = s at *
        generalize L.getD i 0 = x at *
        generalize hs1 : sN (L.take (i + 1)) (kk k) = s1 at *
        have HS1 := Lib.hid hs1
        clear hs1
        generalize sN (L.take i) (kk k) = s0 at *
        go_wp2_with (go_at_call 39; refine SZ.out.mono ?_; rintro e w2 ⟨rfl, rfl⟩)
        rw [M.out.1, M.out.2]
        exact ⟨⟨rfl, rfl, rfl, rfl, rfl, i + 1, HI.out, rfl, by rw [HS1.out]; rfl, HN2.out, rfl⟩, nearer HI.out rfl⟩
      | false =>
        have e1 : sz (L.getD i 0) k = -1 := by unfold sz; rw [hr]; rfl
        rw [e1] at SZ
        have hq := HE.out
        rw [nrs_not hlt hr, if_neg (by simp)] at hq
        have HQ := Lib.hid hq
        clear hlt hi hr e1 hq
        generalize L.getD i 0 = x at *
        generalize sN (L.take i) (kk k) = s0 at *
        go_wp2_with (go_at_call 39; refine SZ.out.mono ?_; rintro e w2 ⟨rfl, rfl⟩)
        go_ret
        exact ⟨by rw [HQ.out]; rfl, rfl⟩
    · have hie : i = L.length := by omega
      subst hie
      have hdd : decide (L.length < L.length) = false := decide_eq_false hlt
      have hn := HN.out
      rw [List.take_length] at hn
      have hq := HE.out
      rw [hn, if_pos rfl] at hq
      have HQ := Lib.hid hq
      rw [List.take_length]
      clear hlt hi hn hq
      generalize sN L (kk k) = s0 at *
      go_wp2
      go_ret
      exact ⟨by rw [HQ.out]; rfl, rfl⟩

def CWInv (v : Value) (L : List Int) (w : World) (a : Act) (w' : World) : Prop :=
  a.defers = [] ∧ a.tmps.size = 27 ∧ a.tmps[6]? = some v ∧ a.tmps[7]? = some (.int .i64 (L.length : Int)) ∧ ∃ i : Nat, i ≤ L.length ∧ a.tmps[8]? = some (.int .i64 (i : Int)) ∧ a.tmps[3]? = some (.int .i64 (cw (L.take i) : Int)) ∧ nrs (L.take i) = true ∧ w' = w

/-- In the inner loop: the width is still j. -/
def CWIn (v : Value) (l i W m : Nat) (x : Int) (w : World) (a : Act) (w' : World) : Prop :=
  a.defers = [] ∧ a.tmps.size = 27 ∧ a.tmps[5]? = some (.int .i64 x) ∧ a.tmps[6]? = some v ∧ a.tmps[7]? = some (.int .i64 (l : Int)) ∧ a.tmps[8]? = some (.int .i64 (i : Int)) ∧ ∃ j : Nat, W ≤ j ∧ j ≤ max W m ∧ a.tmps[3]? = some (.int .i64 (j : Int)) ∧ w' = w

theorem cw_in {x : Int} {j : Nat} (hj : j ≤ 40) : (x ≠ 0 ∧ inD x (j : Int) = false ∧ j < blen (fd x)) ∨ (x = 0 ∧ blen (fd x) ≤ j) ∨ (x ≠ 0 ∧ inD x (j : Int) = true ∧ blen (fd x) ≤ j) := by
  have h := fits_in x j (by omega)
  by_cases h0 : x = 0
  · exact .inr (.inl ⟨h0, h.1 (.inr h0)⟩)
  · cases hi : inD x (j : Int) with
    | true => exact .inr (.inr ⟨h0, rfl, h.1 (.inl hi)⟩)
    | false =>
      refine .inl ⟨h0, rfl, ?_⟩
      have : ¬ blen (fd x) ≤ j := fun hb => by
        rcases h.2 hb with h1 | h1
        · rw [hi] at h1; cases h1
        · exact h0 h1
      omega

set_option maxHeartbeats 1000000 in
theorem cwidth_any (v : Value) (L : List Int) (w : World) (hv : Sl w v (ivs L)) :
    Calls Try.prog 16 #[v] w fun e w' => e = .returned (.int .i64 (cwid L)) ∧ w' = w := by
  obtain ⟨ao, ca, rfl, h1, h2, -⟩ := hv.ints
  have HV := Lib.hid hv
  have HL := Lib.hid (show L.length ≤ 9223372036854775807 by simp only [maxLen] at h2; omega)
  have HE := Lib.hid (show cwid L = if nrs L = true then (cw L : Int) else -1 from rfl)
  generalize cwid L = q at *
  clear hv h1 h2
  go_enter Try.func16, Try.ntmps16
  go_wp2
  refine wp_loop (CWInv (.slice ao L.length ca) L w) (fun a _ => L.length - (intOf (a.tmps.getD 8 undef)).toNat) ?_ ?_
  · exact ⟨rfl, rfl, rfl, rfl, 0, Nat.zero_le _, rfl, rfl, rfl, rfl⟩
  · rintro ⟨tm, df⟩ w1 ⟨rfl, hs, e6, e7, i, hi, e8, e3, hn, rfl⟩
    simp only at hs e6 e7 e8 e3
    obtain ⟨f, hf, hg⟩ := fr_open hs
    have g6 := hg _ _ e6
    have g7 := hg _ _ e7
    have g8 := hg _ _ e8
    have g3 := hg _ _ e3
    simp only [List.range, List.range.loop, List.map] at hf
    rw [g6, g7, g8, g3] at hf
    clear g6 g7 g8 g3 hg hs e6 e7 e8 e3
    subst hf
    have HN := Lib.hid hn
    clear hn
    by_cases hlt : i < L.length
    · obtain ⟨b1, o1, rfl, hc1⟩ := cell_kept HV.out i hlt
      have x1 := hc1 _ (Kept.refl _ _)
      have hdd : decide (i < L.length) = true := decide_eq_true hlt
      have hi1 : (i : Int) < (L.length : Int) := by omega
      have HI := Lib.hid hlt
      have NR := Lib.hid (near_any (L.getD i 0) w1)
      clear hc1
      cases hr : nr (L.getD i 0) with
      | true =>
        have hn2 := nrs_step HN.out hlt hr
        have HN2 := Lib.hid hn2
        have hst := cw_step hlt
        have hbig := cw_near hn2
        have HW0 := Lib.hid (show wrap64 ((i : Int) + 1) = ((i + 1 : Nat) : Int) by have := HL.out; rw [w64_in _ (by omega)]; omega)
        rw [hr] at NR
        rw [hst] at hbig
        have HST := Lib.hid hst
        have HBIG := Lib.hid hbig
        clear hlt hi hr hn2 hst hbig
        generalize L.getD i 0 = x at *
        generalize hW1 : cw (L.take (i + 1)) = W1 at *
        have HW1 := Lib.hid hW1
        clear hW1
        generalize cw (L.take i) = W at *
        go_wp2_with (go_at_call 29; refine NR.out.mono ?_; rintro e w2 ⟨rfl, rfl⟩)
        refine wp_loop (CWIn (.slice (some ⟨b1, o1, none⟩) L.length ca) L.length i W (blen (fd x)) x w1) (fun a _ => 60 - (intOf (a.tmps.getD 3 undef)).toNat) ?_ ?_
        · exact ⟨rfl, rfl, rfl, rfl, rfl, rfl, W, Nat.le_refl _, Nat.le_max_left _ _, rfl, rfl⟩
        · clear x1 hi1 NR
          rintro ⟨tm, df⟩ w2 ⟨rfl, hs, e5, e6, e7, e8, j, hj1, hj2, e3, rfl⟩
          simp only at hs e5 e6 e7 e8 e3
          obtain ⟨f2, hf, hg⟩ := fr_open hs
          have g5 := hg _ _ e5
          have g6 := hg _ _ e6
          have g7 := hg _ _ e7
          have g8 := hg _ _ e8
          have g3 := hg _ _ e3
          simp only [List.range, List.range.loop, List.map] at hf
          rw [g5, g6, g7, g8, g3] at hf
          clear g5 g6 g7 g8 g3 hg hs e5 e6 e7 e8 e3
          subst hf
          have hj40 : j ≤ 40 := by have := HBIG.out; omega
          have HJ := Lib.hid (And.intro hj1 hj2)
          have IN := Lib.hid (in_any x j w2)
          have HJ1 := Lib.hid (show wrap64 ((j : Int) + 1) = ((j + 1 : Nat) : Int) by rw [w64_in _ (by omega)]; omega)
          rcases cw_in (x := x) hj40 with ⟨t0, t1, t2⟩ | ⟨t0, t2⟩ | ⟨t0, t1, t2⟩
          · have tx : (x != 0) = true := bne_iff_ne.2 t0
            rw [t1] at IN
            have T2 := Lib.hid t2
            have HJ40 := Lib.hid hj40
            clear t0 t1 t2 hj1 hj2 hj40
            go_wp2_with (go_at_call 30; refine IN.out.mono ?_; rintro e w3 ⟨rfl, rfl⟩)
            rw [HJ1.out]
            refine ⟨⟨rfl, rfl, rfl, rfl, rfl, rfl, j + 1, by have := HJ.out; omega, by have := HJ.out; have := T2.out; omega, rfl, rfl⟩, nearer (by have := HJ40.out; omega) rfl⟩
          · have tx : (x != 0) = false := by simp [t0]
            have hje : (j : Int) = (W1 : Int) := by have := HJ.out; have := HST.out; omega
            have HJE := Lib.hid hje
            clear t0 t2 hj1 hj2 hj40 hje
            go_wp2_with fail
            rw [HW0.out, HJE.out]
            exact ⟨⟨rfl, rfl, rfl, rfl, i + 1, HI.out, rfl, by rw [HW1.out]; rfl, HN2.out, rfl⟩, nearer HI.out rfl⟩
          · have tx : (x != 0) = true := bne_iff_ne.2 t0
            have hje : (j : Int) = (W1 : Int) := by have := HJ.out; have := HST.out; omega
            have HJE := Lib.hid hje
            rw [t1] at IN
            clear t0 t1 t2 hj1 hj2 hj40 hje
            go_wp2_with (go_at_call 30; refine IN.out.mono ?_; rintro e w3 ⟨rfl, rfl⟩)
            rw [HW0.out, HJE.out]
            exact ⟨⟨rfl, rfl, rfl, rfl, i + 1, HI.out, rfl, by rw [HW1.out]; rfl, HN2.out, rfl⟩, nearer HI.out rfl⟩
      | false =>
        have hq := HE.out
        rw [nrs_not hlt hr, if_neg (by simp)] at hq
        have HQ := Lib.hid hq
        rw [hr] at NR
        clear hlt hi hr hq
        generalize L.getD i 0 = x at *
        generalize cw (L.take i) = W at *
        go_wp2_with (go_at_call 29; refine NR.out.mono ?_; rintro e w2 ⟨rfl, rfl⟩)
        go_ret
        exact ⟨by rw [HQ.out]; rfl, rfl⟩
    · have hie : i = L.length := by omega
      subst hie
      have hdd : decide (L.length < L.length) = false := decide_eq_false hlt
      have hn := HN.out
      rw [List.take_length] at hn
      have hq := HE.out
      rw [hn, if_pos rfl] at hq
      have HQ := Lib.hid hq
      rw [List.take_length]
      clear hlt hi hn hq
      generalize cw L = s0 at *
      go_wp2
      go_ret
      exact ⟨by rw [HQ.out]; rfl, rfl⟩

end Go.Proofs.Ytliggpidkdiinaa

namespace Go.Proofs.Ytliggpidkdiinaa
open Go.RowKit Bx

theorem size_part : (Try.prog.info? 39).map (·.size) = some 2 := by kernel_rfl

theorem part_cells (w : World) (k : Int) (r : Bool) (t : TypeId) : ∀ w', Kept Nix (w.alloc (.cells #[.int .i64 k, .bool r] t)) w' → w'.cell? ⟨w.heap.size, 0, none⟩ = some (.int .i64 k) ∧ w'.cell? ⟨w.heap.size, 1, none⟩ = some (.bool r) ∧ w'.heap[w.heap.size]? = some (.cells #[.int .i64 k, .bool r] t (0, 0)) := by
  intro w' hk
  have hb := hk.heap (heap_alloc_new w (.cells #[.int .i64 k, .bool r] t)) id
  exact ⟨by rw [cell_of hb]; rfl, by rw [cell_of hb]; rfl, hb⟩

theorem raw_any (l : Nat) (k : Int) (w : World) (hl : l ≤ 1048576) (h0 : -100 ≤ k) (h1 : k ≤ 100) :
    Calls Try.prog 28 #[.int .i64 (l : Int), .int .i64 k] w fun e w' => e = .returned (.int .i64 (5 + (l : Int) * k)) ∧ w' = w := by
  have hb : (l : Int) * k ≤ 104857600 ∧ -104857600 ≤ (l : Int) * k := by
    have e1 : (l : Int) * k ≤ (l : Int) * 100 := Int.mul_le_mul_of_nonneg_left h1 (by omega)
    have e2 : (l : Int) * (-100) ≤ (l : Int) * k := Int.mul_le_mul_of_nonneg_left h0 (by omega)
    omega
  have HP := Lib.hid (show wrap64 ((l : Int) * k) = (l : Int) * k from w64_in _ (by omega))
  have HQ := Lib.hid (show wrap64 (5 + (l : Int) * k) = 5 + (l : Int) * k from w64_in _ (by omega))
  clear hb
  go_enter Try.func28, Try.ntmps28
  go_wp2
  go_ret
  refine ⟨ret_int ?_, rfl⟩
  first
    | rw [HP.out, HQ.out]
    | rw [HQ.out]
    | rfl

set_option maxHeartbeats 1000000 in
theorem ceach_any (v : Value) (L : List Int) (k : Int) (r : Bool) (w : World) (hv : Sl w v (ivs L)) (hl : L.length ≤ 1048576) :
    Calls Try.prog 26 #[v, .agg #[.int .i64 k, .bool r]] w fun e w' => e = .returned (.int .i64 (ceach L k r)) ∧ Kept Nix w w' := by
  obtain ⟨ao, ca, rfl, -⟩ := hv.ints
  have k1 : Kept Nix w (w.alloc (.cells #[.int .i64 k, .bool r] 39)) := (Kept.refl _ w).alloc _
  obtain ⟨y0, y1, -⟩ := part_cells w k r 39 _ (Kept.refl _ _)
  have K1 := Lib.hid k1
  have HV := hv.nix k1
  cases r with
  | false =>
    have HB := Lib.hid (cbits_any _ L k _ HV hl)
    have HE := Lib.hid (show ceach L k false = cbits L k from rfl)
    generalize ceach L k false = q at *
    generalize cbits L k = s at *
    clear hv k1 HV hl
    go_enter Try.func26, Try.ntmps26
    go_upto_region 1 with fail
    generalize w.alloc (.cells #[.int .i64 k, .bool false] 39) = w1 at *
    generalize w.heap.size = g at *
    go_wp2_with (go_at_call 31; refine HB.out.mono ?_; rintro e w2 ⟨rfl, rfl⟩)
    go_ret
    exact ⟨by rw [HE.out]; rfl, K1.out⟩
  | true =>
    have HW := Lib.hid (cwidth_any _ L _ HV)
    have HL := Lib.hid hl
    by_cases hc : nrs L = true ∧ (cw L : Int) ≤ k ∧ k ≤ 31
    · obtain ⟨c1, c2, c3⟩ := hc
      have hq : ceach L k true = 5 + (L.length : Int) * k := by simp [ceach, c1, c2, c3, Int.mul_comm]
      have HQ := Lib.hid hq
      have e1 : cwid L = (cw L : Int) := by simp [cwid, c1]
      rw [e1] at HW
      have t1 : decide ((cw L : Int) < 0) = false := decide_eq_false (by omega)
      have t2 : decide (k < (cw L : Int)) = false := decide_eq_false (by omega)
      have t3 : decide (31 < k) = false := decide_eq_false (by omega)
      have HR := Lib.hid (fun w => raw_any L.length k w HL.out (by omega) (by omega))
      generalize ceach L k true = q at *
      clear hv k1 HV hl c1 c2 c3 e1 hq
      generalize cw L = c at *
      generalize L.length = l at *
      go_enter Try.func26, Try.ntmps26
      go_upto_region 1 with fail
      generalize w.alloc (.cells #[.int .i64 k, .bool true] 39) = w1 at *
      generalize w.heap.size = g at *
      go_wp2_with (first | (go_at_call 16; refine HW.out.mono ?_; rintro e w2 ⟨rfl, rfl⟩) | (go_at_call 28; refine (HR.out _).mono ?_; rintro e w3 ⟨rfl, rfl⟩))
      go_ret
      exact ⟨by rw [HQ.out]; rfl, K1.out⟩
    · have hq : ceach L k true = -1 := by simp only [ceach, if_true]; rw [if_neg hc]
      have HQ := Lib.hid hq
      have hcases : decide (cwid L < 0) = true ∨ (decide (cwid L < 0) = false ∧ decide (k < cwid L) = true) ∨ (decide (cwid L < 0) = false ∧ decide (k < cwid L) = false ∧ decide (31 < k) = true) := by
        simp only [decide_eq_true_eq, decide_eq_false_iff_not]
        unfold cwid
        cases hn : nrs L with
        | false => simp
        | true =>
          simp only [hn, true_and] at hc
          rw [if_pos rfl]
          omega
      generalize cwid L = c at *
      generalize ceach L k true = q at *
      clear hv k1 HV hl hc hq
      generalize L.length = l at *
      go_enter Try.func26, Try.ntmps26
      go_upto_region 1 with fail
      generalize w.alloc (.cells #[.int .i64 k, .bool true] 39) = w1 at *
      generalize w.heap.size = g at *
      rcases hcases with a1 | ⟨a1, a2⟩ | ⟨a1, a2, a3⟩
      all_goals
        go_wp2_with (first | (go_at_call 16; refine HW.out.mono ?_; rintro e w2 ⟨rfl, rfl⟩))
        go_ret
        exact ⟨by rw [HQ.out]; rfl, K1.out⟩

end Go.Proofs.Ytliggpidkdiinaa

namespace Go.Proofs.Ytliggpidkdiinaa
open Go.RowKit Bx

/-- The sum, i numbers told: the others have k + 1 bits each so far. -/
def psum (L : List Int) (k i : Nat) : Nat := sN (L.take i) k + (L.length - i) * (k + 1)

theorem psum_zero (L : List Int) (k : Nat) : psum L k 0 = L.length * (k + 1) := by simp [psum, sN]
theorem psum_last (L : List Int) (k : Nat) : psum L k L.length = sN L k := by simp [psum]
theorem psum_step {L : List Int} {i : Nat} (hi : i < L.length) (k : Nat) : psum L k (i + 1) = psum L k i + fd (L.getD i 0) / 2 ^ k := by
  unfold psum
  rw [sN_step hi]
  obtain ⟨r, hr⟩ : ∃ r, L.length - i = r + 1 := ⟨L.length - i - 1, by omega⟩
  have hr2 : L.length - (i + 1) = r := by omega
  rw [hr, hr2, Nat.succ_mul]
  omega
theorem psum_le (L : List Int) (k i : Nat) : psum L k i ≤ sN L k := by
  have h : sN L k = sN (L.take i) k + sN (L.drop i) k := by rw [← sN_append, List.take_append_drop]
  have h2 := sN_low (L.drop i) k
  rw [List.length_drop] at h2
  unfold psum
  omega

def BkInv (v : Value) (L : List Int) (M : Int) (w : World) (a : Act) (w' : World) : Prop :=
  a.defers = [] ∧ a.tmps.size = 49 ∧ a.tmps[0]? = some v ∧ a.tmps[1]? = some (.int .i64 M) ∧ ∃ b k1 : Nat, k1 = b + 1 ∧ b ≤ kk M ∧ a.tmps[8]? = some (.int .i64 (k1 : Int)) ∧ a.tmps[6]? = some (.int .i64 (b : Int)) ∧ a.tmps[7]? = some (.int .i64 (sN L b : Int)) ∧ bk L b = b ∧ w' = w

def BkIn (v : Value) (L : List Int) (M : Int) (b k1 s0 : Nat) (w : World) (a : Act) (w' : World) : Prop :=
  a.defers = [] ∧ a.tmps.size = 49 ∧ a.tmps[0]? = some v ∧ a.tmps[1]? = some (.int .i64 M) ∧ a.tmps[8]? = some (.int .i64 (k1 : Int)) ∧ a.tmps[6]? = some (.int .i64 (b : Int)) ∧ a.tmps[7]? = some (.int .i64 (s0 : Int)) ∧ a.tmps[27]? = some v ∧ a.tmps[28]? = some (.int .i64 (L.length : Int)) ∧
  ∃ i : Nat, i ≤ L.length ∧ a.tmps[29]? = some (.int .i64 (i : Int)) ∧ a.tmps[9]? = some (.int .i64 (psum L k1 i : Int)) ∧ psum L k1 i < s0 ∧ w' = w

theorem bk_nums {L : List Int} {k1 k2 i : Nat} (hn : nrs L = true) (hl : L.length ≤ 1048576) (hk : k2 = k1 + 1) (hb : k1 ≤ 30) (hi : i < L.length) :
    ∃ z x : Nat, sz (L.getD i 0) (k1 : Int) = (z : Int) ∧ wrap64 ((z : Int) - (k2 : Int)) = (x : Int) ∧
    wrap64 ((psum L k1 i : Int) + (x : Int)) = (psum L k1 (i + 1) : Int) ∧ wrap64 ((i : Int) + 1) = ((i + 1 : Nat) : Int) := by
  subst hk
  have hr := nrs_get hn i hi
  have h1 := psum_step hi k1
  have h2 := psum_le L k1 (i + 1)
  have h3 := sN_big hn hl k1 hb
  have e : kk ((k1 : Nat) : Int) = k1 := by unfold kk; omega
  have es : sz (L.getD i 0) (k1 : Int) = ((fd (L.getD i 0) / 2 ^ k1 : Nat) : Int) + 1 + (k1 : Int) := by simp only [sz, hr, if_true, e]
  refine ⟨fd (L.getD i 0) / 2 ^ k1 + 1 + k1, fd (L.getD i 0) / 2 ^ k1, ?_⟩
  rw [es]
  generalize fd (L.getD i 0) / 2 ^ k1 = x at *
  refine ⟨by omega, ?_, ?_, ?_⟩
  · rw [w64_in _ (by omega)]; omega
  · rw [w64_in _ (by omega)]; omega
  · rw [w64_in _ (by omega)]; omega

theorem bk_head {L : List Int} {k1 k2 : Nat} (hl : L.length ≤ 1048576) (hk : k2 = k1 + 1) (hb : k1 ≤ 30) : wrap64 ((k1 : Int) + 1) = (k2 : Int) ∧ wrap64 ((L.length : Int) * (k2 : Int)) = (psum L k1 0 : Int) := by
  subst hk
  have h : L.length * (k1 + 1) ≤ 1048576 * 32 := Nat.mul_le_mul hl (by omega)
  have e : (L.length : Int) * ((k1 + 1 : Nat) : Int) = ((L.length * (k1 + 1) : Nat) : Int) := by simp
  rw [psum_zero, e]
  exact ⟨by rw [w64_in _ (by omega)]; omega, by rw [w64_in _ (by omega)]⟩

theorem nearer60 {k1 k2 : Nat} (h : k2 = k1 + 1) (hb : k1 ≤ 30) : 60 - k2 < 60 - k1 := by omega

set_option maxRecDepth 10000 in
set_option maxHeartbeats 2000000 in
theorem bestk_any (v : Value) (L : List Int) (M : Int) (w : World) (hv : Sl w v (ivs L)) (hl : L.length ≤ 1048576) (hn : nrs L = true) (hM : M ≤ 30) :
    Calls Try.prog 27 #[v, .int .i64 M] w fun e w' => e = .returned (.tuple #[.int .i64 (bk L (kk M) : Int), .int .i64 (sN L (bk L (kk M)) : Int)]) ∧ w' = w := by
  obtain ⟨ao, ca, rfl, -⟩ := hv.ints
  have HB := Lib.hid (show Calls Try.prog 31 #[.slice ao L.length ca, .int .i64 0] w fun e w' => e = .returned (.int .i64 (sN L 0 : Int)) ∧ w' = w by
    have h := cbits_any _ L 0 w hv hl
    rwa [show cbits L 0 = (sN L 0 : Int) by unfold cbits; rw [if_pos hn]; rfl] at h)
  have FIN := Lib.hid (fun b (h1 : bk L b = b) (h2 : b = kk M ∨ (b ≤ kk M ∧ sN L b ≤ sN L (b + 1))) => show Ending.returned (Value.tuple #[.int .i64 (b : Int), .int .i64 (sN L b : Int)]) = .returned (.tuple #[.int .i64 (bk L (kk M) : Int), .int .i64 (sN L (bk L (kk M)) : Int)]) by
    rcases h2 with rfl | ⟨h2, h3⟩
    · rw [h1]
    · rw [bk_at h1 h3 h2])
  have HV := Lib.hid hv
  have HL := Lib.hid hl
  have HN := Lib.hid hn
  have HM := Lib.hid hM
  clear hv hl hn hM
  go_enter Try.func27, Try.ntmps27
  go_wp2_with fail
  go_step3
  go_wp2_with (go_at_call 31; refine HB.out.mono ?_; rintro e w2 ⟨rfl, rfl⟩)
  go_step3
  go_wp2
  refine wp_loop (BkInv (.slice ao L.length ca) L M w2) (fun a _ => 60 - (intOf (a.tmps.getD 8 undef)).toNat) ?_ ?_
  · exact ⟨rfl, rfl, rfl, rfl, 0, 1, rfl, Nat.zero_le _, rfl, rfl, rfl, rfl, rfl⟩
  · rintro ⟨tm, df⟩ w1 ⟨rfl, hs, e0, e1, b, k1, hk1, hb, e8, e6, e7, hbk, rfl⟩
    simp only at hs e0 e1 e8 e6 e7
    obtain ⟨f, hf, hg⟩ := fr_open hs
    have g0 := hg _ _ e0
    have g1 := hg _ _ e1
    have g8 := hg _ _ e8
    have g6 := hg _ _ e6
    have g7 := hg _ _ e7
    simp only [List.range, List.range.loop, List.map] at hf
    rw [g0, g1, g8, g6, g7] at hf
    clear g0 g1 g8 g6 g7 hg hs e0 e1 e8 e6 e7 HB
    subst hf
    have HK1 := Lib.hid hk1
    by_cases hlt : b < kk M
    · have hb30 : k1 ≤ 30 := by have := kk_le M; omega
      have hkM : k1 ≤ kk M := by omega
      have ht : decide ((k1 : Int) ≤ M) = true := decide_eq_true (by unfold kk at hlt; omega)
      obtain ⟨k2, hk2⟩ : ∃ k2, k2 = k1 + 1 := ⟨_, rfl⟩
      obtain ⟨n1, n2⟩ := bk_head (L := L) HL.out hk2 hb30
      have NU := Lib.hid (fun i hi => bk_nums (i := i) HN.out HL.out hk2 hb30 hi)
      have LO := Lib.hid (show ∀ i, psum L k1 i ≤ sN L (b + 1) from fun i => by rw [← hk1]; exact psum_le L k1 i)
      have FIN2 := Lib.hid (fun h => FIN.out b hbk (.inr ⟨hb, h⟩))
      have NX := Lib.hid (show ∀ s0, sN L b = s0 → sN L k1 < s0 → bk L k1 = k1 from fun s0 h0 h => by subst h0; subst hk1; rw [bk, hbk, if_pos h])
      have HK2 := Lib.hid hk2
      have HB30 := Lib.hid hb30
      have HKM := Lib.hid hkM
      clear hlt hb hb30 hbk hk1 hk2 hkM
      generalize hs0 : sN L b = s0 at *
      have HS0 := Lib.hid hs0
      clear hs0
      generalize hp0 : psum L k1 0 = p0 at *
      have HP0 := Lib.hid hp0
      clear hp0
      by_cases hbr : s0 ≤ p0
      · have hd : decide (s0 ≤ p0) = true := decide_eq_true hbr
        have R := Lib.hid (FIN2.out (by have := LO.out 0; rw [HP0.out] at this; omega))
        clear hbr
        go_wp2_with fail
        try rw [Exit.noGoto_ret]
        go_ret2
        exact ⟨R.out, rfl⟩
      · have hd : decide (s0 ≤ p0) = false := decide_eq_false hbr
        have HBR := Lib.hid hbr
        clear hbr
        go_wp2_with fail
        rw [n2]
        refine wp_loop (BkIn (.slice ao L.length ca) L M b k1 s0 w1) (fun a _ => L.length - (intOf (a.tmps.getD 29 undef)).toNat) ?_ ?_
        · exact ⟨rfl, rfl, rfl, rfl, rfl, rfl, rfl, rfl, rfl, 0, Nat.zero_le _, rfl, by rw [HP0.out]; rfl, by rw [HP0.out]; have := HBR.out; omega, rfl⟩
        · clear n2 ht hd
          rintro ⟨tm, df⟩ w2 ⟨rfl, hs, e0, e1, e8, e6, e7, e27, e28, i, hi, e29, e9, hp, rfl⟩
          simp only at hs e0 e1 e8 e6 e7 e27 e28 e29 e9
          obtain ⟨f2, hf, hg⟩ := fr_open hs
          have g0 := hg _ _ e0
          have g1 := hg _ _ e1
          have g8 := hg _ _ e8
          have g6 := hg _ _ e6
          have g7 := hg _ _ e7
          have g27 := hg _ _ e27
          have g28 := hg _ _ e28
          have g29 := hg _ _ e29
          have g9 := hg _ _ e9
          simp only [List.range, List.range.loop, List.map] at hf
          rw [g0, g1, g8, g6, g7, g27, g28, g29, g9] at hf
          clear g0 g1 g8 g6 g7 g27 g28 g29 g9 hg hs e0 e1 e8 e6 e7 e27 e28 e29 e9
          subst hf
          have HP := Lib.hid hp
          clear hp
          by_cases hlt : i < L.length
          · obtain ⟨b1, o1, rfl, hc1⟩ := cell_kept HV.out i hlt
            have x1 := hc1 _ (Kept.refl _ _)
            have hdd : decide (i < L.length) = true := decide_eq_true hlt
            have hi1 : (i : Int) < (L.length : Int) := by omega
            obtain ⟨z, y, m1, m2, m3, m4⟩ := NU.out i hlt
            have HI := Lib.hid hlt
            have SZ := Lib.hid (size_any (L.getD i 0) (k1 : Int) w2)
            rw [m1] at SZ
            have M4 := Lib.hid m4
            have LOI := Lib.hid (LO.out (i + 1))
            clear hc1 hlt hi m1 m4
            generalize L.getD i 0 = x at *
            generalize hp1 : psum L k1 (i + 1) = p1 at *
            have HP1 := Lib.hid hp1
            clear hp1
            generalize psum L k1 i = pi at *
            by_cases hbr : s0 ≤ p1
            · have hd : decide (s0 ≤ p1) = true := decide_eq_true hbr
              have R := Lib.hid (FIN2.out (by have := LOI.out; omega))
              clear hbr
              go_wp2_with (go_at_call 39; refine SZ.out.mono ?_; rintro e w3 ⟨rfl, rfl⟩)
              try rw [Exit.noGoto_ret]
              go_ret2
              exact ⟨R.out, rfl⟩
            · have hd : decide (s0 ≤ p1) = false := decide_eq_false hbr
              have HBR := Lib.hid hbr
              clear hbr
              go_wp2_with (go_at_call 39; refine SZ.out.mono ?_; rintro e w3 ⟨rfl, rfl⟩)
              rw [M4.out, m3]
              exact ⟨⟨rfl, rfl, rfl, rfl, rfl, rfl, rfl, rfl, rfl, i + 1, HI.out, rfl, by rw [HP1.out]; rfl, by rw [HP1.out]; have := HBR.out; omega, rfl⟩, nearer HI.out rfl⟩
          · have hie : i = L.length := by omega
            subst hie
            have hdd : decide (L.length < L.length) = false := decide_eq_false hlt
            have hp := HP.out
            rw [psum_last] at hp ⊢
            have HNX := Lib.hid (NX.out _ rfl hp)
            clear hlt hi hp HP
            generalize hs1 : sN L k1 = s1 at *
            have HS1 := Lib.hid hs1
            clear hs1
            go_wp2_with fail
            rw [n1]
            exact ⟨⟨rfl, rfl, rfl, rfl, k1, k2, HK2.out, HKM.out, rfl, rfl, by rw [HS1.out]; rfl, HNX.out, rfl⟩, nearer60 HK2.out HB30.out⟩
    · have hbe : b = kk M := by omega
      have ht : decide ((k1 : Int) ≤ M) = false := decide_eq_false (by unfold kk at hbe; have := HM.out; omega)
      have R := Lib.hid (FIN.out b hbk (.inl hbe))
      clear hbe hlt hb hk1 hbk
      generalize sN L b = s0 at *
      go_wp2_with fail
      try rw [Exit.noGoto_ret]
      go_ret2
      exact ⟨R.out, rfl⟩

end Go.Proofs.Ytliggpidkdiinaa
