/- The reference of layer 13: Best. -/
import Derived.Test.YtliggpidkdiinaaRCost2
import Derived.Deep.RegionHeld3
namespace Go.Proofs.Ytliggpidkdiinaa
open Go.RowKit Bx

/-- How many bits a way has, by its number. -/
def wayN (L : List Int) (m j : Nat) : Nat := if j ≤ m then sN L j else 5 + L.length * cw L

/-- The first one of the ways up to i that have fewest bits. -/
def bst (L : List Int) (m : Nat) : Nat → Nat
  | 0 => 0
  | i + 1 => if wayN L m (i + 1) < wayN L m (bst L m i) then i + 1 else bst L m i

theorem bst_le (L : List Int) (m i : Nat) : bst L m i ≤ i := by
  induction i with
  | zero => simp [bst]
  | succ i ih => simp only [bst]; split <;> omega

theorem bst_low (L : List Int) (m : Nat) : ∀ i, i ≤ m → bst L m i = bk L i := by
  intro i
  induction i with
  | zero => intro _; rfl
  | succ i ih =>
    intro h
    have h1 := ih (by omega)
    have h2 := bk_le L i
    have e1 : wayN L m (i + 1) = sN L (i + 1) := by unfold wayN; rw [if_pos h]
    have e2 : wayN L m (bk L i) = sN L (bk L i) := by unfold wayN; rw [if_pos (by omega)]
    simp only [bst, bk, h1, e1, e2]

theorem wys_length (L : List Int) (m : Nat) : (wys L m).length = if cw L ≤ 31 then m + 2 else m + 1 := by
  unfold wys
  split <;> simp [kways_length]

theorem wys_low (L : List Int) (m j : Nat) (h : j ≤ m) : (wys L m).getD j (0, false) = ((j : Int), false) := by
  unfold wys kways
  simp only [List.getD_eq_getElem?_getD]
  rw [List.getElem?_append_left (by simp; omega)]
  simp [show j < m + 1 by omega]

theorem wys_last (L : List Int) (m : Nat) (h : cw L ≤ 31) : (wys L m).getD (m + 1) (0, false) = ((cw L : Int), true) := by
  unfold wys
  rw [if_pos h]
  simp only [List.getD_eq_getElem?_getD]
  rw [List.getElem?_append_right (by rw [kways_length]; exact Nat.le_refl _), kways_length]
  simp

theorem way_each {L : List Int} (hn : nrs L = true) {m j : Nat} (hm : m ≤ 30) (h : j < (wys L m).length) : ceach L ((wys L m).getD j (0, false)).1 ((wys L m).getD j (0, false)).2 = (wayN L m j : Int) := by
  rw [wys_length] at h
  by_cases hj : j ≤ m
  · rw [wys_low L m j hj]
    unfold ceach cbits wayN
    rw [if_neg (by simp), if_pos hn, if_pos hj, show kk ((j : Nat) : Int) = j by unfold kk; omega]
  · have hc : cw L ≤ 31 := by
      by_cases hc : cw L ≤ 31
      · exact hc
      · rw [if_neg hc] at h; omega
    rw [if_pos hc] at h
    obtain rfl : j = m + 1 := by omega
    rw [wys_last L m hc]
    unfold ceach wayN
    rw [if_pos rfl, if_pos ⟨hn, by omega, by omega⟩, if_neg (by omega)]
    simp [Int.mul_comm]

/-- The way that is found is the best one. -/
theorem bst_best {L : List Int} (hn : nrs L = true) (m : Nat) : (wys L m).getD (bst L m ((wys L m).length - 1)) (0, false) = (bestK L m, bestR L m) ∧ (wayN L m (bst L m ((wys L m).length - 1)) : Int) = bestN L m := by
  obtain ⟨h1, h2, h3, -⟩ := best_near hn m
  rw [h1, h2, h3, wys_length]
  have hb := bk_le L m
  by_cases hc : cw L ≤ 31
  · rw [if_pos hc, show m + 2 - 1 = m + 1 by omega, bst, bst_low L m m (Nat.le_refl _)]
    have e1 : wayN L m (m + 1) = 5 + L.length * cw L := by unfold wayN; rw [if_neg (by omega)]
    have e2 : wayN L m (bk L m) = sN L (bk L m) := by unfold wayN; rw [if_pos hb]
    rw [e1, e2]
    cases hr : cbR L m with
    | true =>
      have hr2 := hr
      simp only [cbR, Bool.and_eq_true, decide_eq_true_eq] at hr2
      rw [if_pos hr2.2, wys_last L m hc, e1]
      unfold cbK cbN
      rw [if_pos hr, if_pos hr]
      exact ⟨rfl, rfl⟩
    | false =>
      have hr2 := hr
      simp only [cbR, decide_eq_true hc, Bool.true_and, decide_eq_false_iff_not] at hr2
      rw [if_neg hr2, wys_low L m _ hb, e2]
      unfold cbK cbN
      rw [if_neg (by rw [hr]; simp), if_neg (by rw [hr]; simp)]
      exact ⟨rfl, rfl⟩
  · have hr : cbR L m = false := by unfold cbR; rw [decide_eq_false hc]; rfl
    rw [if_neg hc, show m + 1 - 1 = m by omega, bst_low L m m (Nat.le_refl _), wys_low L m _ hb, hr]
    have e2 : wayN L m (bk L m) = sN L (bk L m) := by unfold wayN; rw [if_pos hb]
    rw [e2]
    unfold cbK cbN
    rw [if_neg (by rw [hr]; simp), if_neg (by rw [hr]; simp)]
    exact ⟨rfl, rfl⟩

/-- The cells of a part out of a slice of them, in any world that kept it. -/
theorem part_in {w : World} {base g n cap : Nat} {ps : List (Int × Bool)} (h : w.ownsRow base 39 2 (.slice (some ⟨g, 0, none⟩) n cap) ps.length (pcs ps)) (i : Nat) (hi : i < ps.length) :
    ∀ w', Kept Nix w w' → w'.cell? ⟨g, i * 2, none⟩ = some (.int .i64 (ps.getD i (0, false)).1) ∧ w'.cell? ⟨g, i * 2 + 1, none⟩ = some (.bool (ps.getD i (0, false)).2) := by
  intro w' hk
  have h2 := hk.owns h (fun _ _ h => h)
  obtain ⟨p1, p2⟩ := pcs_get ps i hi
  have c1 := h2.cells (g := g) rfl _ _ p1
  have c2 := h2.cells (g := g) rfl _ _ p2
  rw [Addr.add_lit, Nat.zero_add] at c1 c2
  rw [Nat.mul_comm]
  exact ⟨c1, c2⟩

def RBInv (v : Value) (vu : Value) (L : List Int) (m : Nat) (g : Nat) (w1 : World) (a : Act) (w' : World) : Prop :=
  a.defers = [] ∧ a.tmps.size = 49 ∧ a.tmps[0]? = some v ∧ a.tmps[4]? = some (.pointer (some ⟨g, 0, none⟩)) ∧ a.tmps[8]? = some vu ∧ ∃ i : Nat, 1 ≤ i ∧ i ≤ (wys L m).length ∧ a.tmps[10]? = some (.int .i64 (i : Int)) ∧ a.tmps[9]? = some (.int .i64 (bst L m (i - 1) : Int)) ∧ Kept Nix w1 w'

set_option maxRecDepth 10000 in
set_option maxHeartbeats 4000000 in
theorem rcbest_any (v : Value) (L : List Int) (most : Int) (w : World) (hv : Sl w v (ivs L)) (hl : L.length ≤ 1048576) :
    Calls Try.prog 36 #[v, .int .i64 most] w fun e w' => e = .returned (bestV L (kk most)) ∧ Kept Nix w w' := by
  obtain ⟨ao, ca, rfl, -⟩ := hv.ints
  obtain ⟨h4, k0, hsz⟩ := part_start w _ rfl
  have H4 := Lib.hid h4
  have K0 := Lib.hid k0
  have HSZ := Lib.hid hsz
  have NR := Lib.hid (rnears_any _ L _ (hv.nix k0))
  cases hn : nrs L with
  | false =>
    rw [hn] at NR
    rw [bestV_far hn]
    clear hv hl h4 k0 hsz hn
    go_enter Try.func36, Try.ntmps36
    go_upto_region 1 with fail
    generalize w.alloc (.cells #[.int .i64 0, .bool false] 39) = w1 at *
    go_wp2_with (first
      | (go_at_call 13; refine NR.out.mono ?_; rintro e w2 ⟨rfl, rfl⟩; clear NR)
      | (refine wpList_store_row rfl 39 _ _ rfl _ _ rfl rfl 39 _ H4.out size_part rfl (one_part _ _) ?_))
    exact bodyPost_ret (results_part rfl _ _ w.heap.size _ 0 6 rfl (heap_row _ H4.out) rfl rfl rfl) rfl ⟨rfl, K0.out.setRow (.inr (Nat.le_refl _)) _⟩
  | true =>
    rw [hn] at NR
    have HV := Lib.hid hv
    have HL := Lib.hid hl
    have HN := Lib.hid hn
    have WY := Lib.hid (rways_any _ L most _ (hv.nix k0) hl hn)
    clear hv hl h4 k0 hsz hn
    go_enter Try.func36, Try.ntmps36
    go_upto_region 1 with fail
    generalize w.alloc (.cells #[.int .i64 0, .bool false] 39) = w1 at *
    generalize hg4 : w.heap.size = g4 at *
    have HG4 := Lib.hid hg4
    clear hg4
    go_upto_region 5 with (first
      | (go_at_call 13; refine NR.out.mono ?_; rintro e w2 ⟨rfl, rfl⟩; clear NR)
      | (go_at_call 45; refine WY.out.mono ?_; rintro e w2 ⟨u2, rfl, o2, k2⟩; have O2 := Lib.hid o2; have K2 := Lib.hid k2; clear o2 k2 WY))
    have hn1 : 1 ≤ (wys L (kk most)).length ∧ (wys L (kk most)).length ≤ 32 := by
      have := kk_le most
      rw [wys_length]
      split <;> omega
    obtain ⟨b, cap, rfl, hc1, -, hbb, -⟩ := owns_pos O2.out (by omega)
    have HBB := Lib.hid hbb
    have HC := Lib.hid (fun j (hj : j < (wys L (kk most)).length) => part_in O2.out j hj)
    have EE := Lib.hid (fun j (hj : j < (wys L (kk most)).length) w' (h : Kept Nix w2 w') => (rceach_any _ L ((wys L (kk most)).getD j (0, false)).1 ((wys L (kk most)).getD j (0, false)).2 w' (HV.out.nix (nix_trans (nix_trans K0.out K2.out) h)) HL.out).mono (R' := fun e w'' => e = .returned (.int .i64 (wayN L (kk most) j : Int)) ∧ Kept Nix w2 w'') (fun e w'' (hh : _ ∧ _) => ⟨by rw [hh.1, way_each HN.out (kk_le most) hj], nix_trans h hh.2⟩))
    have BB := Lib.hid (bst_best HN.out (kk most))
    have HBE := Lib.hid (best_near HN.out (kk most)).2.2.2
    have N1 := Lib.hid hn1
    have HCAP := Lib.hid hc1
    clear hbb hn1 hc1
    generalize hn : (wys L (kk most)).length = n at *
    have HNN := Lib.hid hn
    clear hn
    go_wp2
    refine wp_loop (RBInv (.slice ao L.length ca) (.slice (some ⟨b, 0, none⟩) n cap) L (kk most) g4 w2) (fun a _ => n - (intOf (a.tmps.getD 10 undef)).toNat) ?_ ?_
    · exact ⟨rfl, rfl, rfl, rfl, rfl, 1, Nat.le_refl _, by rw [HNN.out]; exact N1.out.1, rfl, rfl, Kept.refl _ _⟩
    · rintro ⟨tm, df⟩ w3 ⟨rfl, hs, e0, e4, e8, i, hi1, hi2, e10, e9, hk⟩
      simp only at hs e0 e4 e8 e10 e9
      rw [HNN.out] at hi2
      obtain ⟨f, hf, hg⟩ := fr_open hs
      have g0 := hg _ _ e0
      have g4' := hg _ _ e4
      have g8 := hg _ _ e8
      have g10 := hg _ _ e10
      have g9 := hg _ _ e9
      simp only [List.range, List.range.loop, List.map] at hf
      rw [g0, g4', g8, g10, g9] at hf
      clear g0 g4' g8 g10 g9 hg hs e0 e4 e8 e10 e9
      subst hf
      have HK := Lib.hid hk
      clear hk
      by_cases hlt : i < n
      · have hbl := bst_le L (kk most) (i - 1)
        have C1 := Lib.hid (HC.out i hlt)
        have C2 := Lib.hid (HC.out (bst L (kk most) (i - 1)) (by omega))
        have EI := Lib.hid (EE.out i hlt)
        have EA := Lib.hid (EE.out (bst L (kk most) (i - 1)) (by omega))
        have HI := Lib.hid hlt
        have hdd : decide (i < n) = true := decide_eq_true hlt
        have q1 : (i : Int) < (n : Int) := by omega
        have q2 : (bst L (kk most) (i - 1) : Int) < (n : Int) := by omega
        have HW := Lib.hid (show wrap64 ((i : Int) + 1) = ((i + 1 : Nat) : Int) by have := N1.out; rw [w64_in _ (by omega)]; omega)
        have HB1 := Lib.hid (show bst L (kk most) (i + 1 - 1) = if wayN L (kk most) i < wayN L (kk most) (bst L (kk most) (i - 1)) then i else bst L (kk most) (i - 1) by
          obtain ⟨i', rfl⟩ : ∃ i', i = i' + 1 := ⟨i - 1, by omega⟩
          simp only [Nat.add_sub_cancel, bst])
        have HM := Lib.hid (show i + 1 ≤ n by omega)
        generalize (wys L (kk most)).getD i (0, false) = pi at *
        generalize (wys L (kk most)).getD (bst L (kk most) (i - 1)) (0, false) = pa at *
        obtain ⟨ki, ri⟩ := pi
        obtain ⟨ka, ra⟩ := pa
        clear hbl hi1 hi2 hlt HC EE BB
        generalize bst L (kk most) (i - 1) = at0 at *
        generalize wayN L (kk most) i = ni at *
        generalize wayN L (kk most) at0 = na at *
        simp only at C1 C2 EI EA
        obtain ⟨c1, c2⟩ := C1.out w3 HK.out
        obtain ⟨d1, d2⟩ := C2.out w3 HK.out
        go_upto_region 9 with fail
        have hlt2 : ∃ t, decide (ni < na) = t := ⟨_, rfl⟩
        obtain ⟨t, ht⟩ := hlt2
        go_region_held3 (fun w' => Kept Nix w2 w' ∧ w'.cell? ⟨b, i * 2, none⟩ = some (.int .i64 ki) ∧ w'.cell? ⟨b, i * 2 + 1, none⟩ = some (.bool ri) ∧ w'.cell? ⟨b, at0 * 2, none⟩ = some (.int .i64 ka) ∧ w'.cell? ⟨b, at0 * 2 + 1, none⟩ = some (.bool ra))
          (first | assumption | exact ⟨HK.out.drew, c1, c2, d1, d2⟩ | exact ⟨HKI.out, (C1.out _ HKI.out).1, (C1.out _ HKI.out).2, (C2.out _ HKI.out).1, (C2.out _ HKI.out).2⟩ | exact ⟨HKA.out, (C1.out _ HKA.out).1, (C1.out _ HKA.out).2, (C2.out _ HKA.out).1, (C2.out _ HKA.out).2⟩)
          (first
            | (go_at_call 37; refine (EI.out _ (And.left (by assumption))).mono ?_; rintro e wx ⟨rfl, kx⟩; have HKI := Lib.hid kx; clear kx EI)
            | (go_at_call 37; refine (EA.out _ (And.left (by assumption))).mono ?_; rintro e wy ⟨rfl, ky⟩; have HKA := Lib.hid ky; clear ky EA))
        have HTT := Lib.hid ht
        have HKA2 := Lib.hid HKA.out
        clear c1 c2 d1 d2 ht hdd q1 q2
        cases t with
        | true =>
          go_wp2
          rw [HW.out]
          refine ⟨⟨rfl, rfl, rfl, rfl, rfl, i + 1, by omega, by rw [HNN.out]; exact HM.out, rfl, ?_, HKA2.out⟩, nearer HI.out rfl⟩
          rw [HB1.out, if_pos (of_decide_eq_true HTT.out)]
          rfl
        | false =>
          go_wp2
          rw [HW.out]
          refine ⟨⟨rfl, rfl, rfl, rfl, rfl, i + 1, by omega, by rw [HNN.out]; exact HM.out, rfl, ?_, HKA2.out⟩, nearer HI.out rfl⟩
          rw [HB1.out, if_neg (of_decide_eq_false HTT.out)]
          rfl
      · have hie : i = n := by omega
        subst hie
        have hdd : decide (i < i) = false := decide_eq_false hlt
        have hbl := bst_le L (kk most) (i - 1)
        have C2 := Lib.hid (HC.out (bst L (kk most) (i - 1)) (by omega))
        have EA := Lib.hid (EE.out (bst L (kk most) (i - 1)) (by omega))
        have q2 : (bst L (kk most) (i - 1) : Int) < (i : Int) := by omega
        obtain ⟨b1, b2⟩ := BB.out
        rw [b1] at C2 EA
        rw [b2] at EA
        have KW := Lib.hid (nix_trans K0.out K2.out)
        have H3 := Lib.hid (K2.out.heap H4.out id)
        clear hbl hi1 hi2 hlt HC EE BB b1 b2
        have HBV := Lib.hid (show bestV L (kk most) = .tuple #[.agg #[.int .i64 (bestK L (kk most)), .bool (bestR L (kk most))], .int .i64 (bestN L (kk most)), .int .i64 0] by rw [bestV, HBE.out])
        generalize bst L (kk most) (i - 1) = at0 at *
        simp only at C2 EA
        generalize bestK L (kk most) = pk at *
        generalize bestR L (kk most) = pr at *
        generalize bestN L (kk most) = pn at *
        obtain ⟨d1, d2⟩ := C2.out w3 HK.out
        go_upto_region 11 with fail
        go_region_law
          (first
            | (go_simp; go_at_call 37; refine (EA.out _ HK.out.drew).mono ?_; rintro e w5 ⟨rfl, k5⟩; have K5 := Lib.hid k5; obtain ⟨f1, f2⟩ := C2.out w5 k5; have h5 := k5.heap H3.out id; have y0 := (cell_of (i := 0) h5).trans rfl; have y1 := (cell_of (i := 1) h5).trans rfl; have z0 := frozen_of (i := 0) h5; have z1 := frozen_of (i := 1) h5; have H5 := Lib.hid h5; clear k5 EA h5))
        all_goals
          clear d1 d2 f1 f2 y0 y1 z0 z1
          go_wp2
          exact bodyPost_ret (results_part rfl _ _ g4 #[.int .i64 pk, .bool pr] pn 0 rfl (heap_set (heap_set H5.out)) rfl rfl rfl) rfl ⟨by rw [HBV.out], ((nix_trans KW.out K5.out).setCell (.inr (Nat.le_of_eq HG4.out)) _).setCell (.inr (Nat.le_of_eq HG4.out)) _⟩

end Go.Proofs.Ytliggpidkdiinaa
