/- Package cost: Best. Contracts of the reference's functions of layer 2: K, Fold, Near, High, Size. Two parts compared; the reference's Near. The reference of layer 13: Bits, Width, Each. The reference of layer 13: Ways. The reference of layer 13: Best. Slices of slices of integers of the call's own. -/
import Derived.Test.YtliggpidkdiinaaPk4
import Derived.Test.YtliggpidkdiinaaPk1
import Derived.Laws.StructEq
import Derived.Deep.RegionHeld3
import Derived.Test.YtliggpidkdiinaaPk2
import Derived.Test.YtliggpidkdiinaaPk3

namespace Go.Proofs.Ytliggpidkdiinaa
open Go.RowKit Bx

/-- A result of three: a part that lives in memory, and two numbers. -/
theorem results_part {fn : Func} {p u v : Tmp} (h : fn.results = #[.cell p 39, .tmp u, .tmp v]) (tmps : Array Value) (w : World) (g : Nat) (cs : Array Value) (x y : Int)
    (hp : tmps.getD p undef = .pointer (some ⟨g, 0, none⟩)) (hg : w.heap[g]? = some (.cells cs 39 (0, 0))) (hc : cs.size = 2) (hu : tmps.getD u undef = .int .i64 x) (hv : tmps.getD v undef = .int .i64 y) :
    (results fn tmps).run Try.prog w = .ok (.tuple #[.agg cs, .int .i64 x, .int .i64 y]) w := by
  have h1 := run_loadVar_row (P := Try.prog) w g 39 39 cs (0, 0) _ hg Try.underlying39 rfl (by rw [hc]; exact size_part)
  simp only [Array.getD_eq_getD_getElem?] at hp hu hv
  simp only [results, h]
  simp [hp, asAddr, h1, hu, hv, Result.andThen]

theorem one_part (k : Int) (r : Bool) : (#[.int .i64 k, .bool r] : Array Value).all (·.oneCell') = true := by simp [Value.oneCell']

/-- What Best answers. -/
def bestV (L : List Int) (m : Nat) : Value := .tuple #[.agg #[.int .i64 (bestK L m), .bool (bestR L m)], .int .i64 (bestN L m), .int .i64 (bestE L)]

theorem bestV_far {L : List Int} (h : nrs L = false) (m : Nat) : bestV L m = .tuple #[.agg #[.int .i64 0, .bool false], .int .i64 0, .int .i64 6] := by
  obtain ⟨h1, h2, h3, h4⟩ := best_far h m
  rw [bestV, h1, h2, h3, h4]

theorem bestV_raw {L : List Int} (h : nrs L = true) {m : Nat} (hr : cbR L m = true) : bestV L m = .tuple #[.agg #[.int .i64 (cw L : Int), .bool true], .int .i64 ((5 + L.length * cw L : Nat) : Int), .int .i64 0] := by
  obtain ⟨h1, h2, h3, h4⟩ := best_near h m
  rw [bestV, h1, h2, h3, h4, cbK, cbN, hr, if_pos rfl, if_pos rfl]

theorem bestV_k {L : List Int} (h : nrs L = true) {m : Nat} (hr : cbR L m = false) : bestV L m = .tuple #[.agg #[.int .i64 (bk L m : Int), .bool false], .int .i64 (sN L (bk L m) : Int), .int .i64 0] := by
  obtain ⟨h1, h2, h3, h4⟩ := best_near h m
  rw [bestV, h1, h2, h3, h4, cbK, cbN, hr, if_neg (by simp), if_neg (by simp)]

theorem kk_min (most M : Int) (h : (if 30 < most then (30 : Int) else most) = M) : M ≤ 30 ∧ kk M = kk most := by
  unfold kk
  split at h <;> omega

theorem part_start (w : World) : ∀ w', w' = w.alloc (.cells #[.int .i64 0, .bool false] 39) → w'.heap[w.heap.size]? = some (.cells #[.int .i64 0, .bool false] 39 (0, 0)) ∧ Kept Nix w w' ∧ w.heap.size < w'.heap.size := by
  rintro w' rfl
  exact ⟨heap_alloc_new _ _, (Kept.refl _ w).alloc _, by simp⟩

theorem part_second {w : World} (w2 : World) (cs : Array Value) (t : TypeId) (b : Int) (h4 : w2.heap[w.heap.size]? = some (.cells cs t (0, 0))) (hsz : w.heap.size < w2.heap.size) (k0 : Kept Nix w w2) :
    ∀ w3, w3 = w2.alloc (.cells #[.int .i64 b, .bool false] 39) → w3.heap[w2.heap.size]? = some (.cells #[.int .i64 b, .bool false] 39 (0, 0)) ∧ w3.heap[w.heap.size]? = some (.cells cs t (0, 0)) ∧ (Kept Nix w w3 ∧ w.heap.size < w2.heap.size) ∧ w.heap.size ≠ w2.heap.size ∧ True := by
  rintro w3 rfl
  exact ⟨heap_alloc_new _ _, ((Kept.refl Nix w2).alloc _).heap h4 id, ⟨k0.alloc _, hsz⟩, by omega, trivial⟩

set_option maxRecDepth 10000 in
set_option maxHeartbeats 2000000 in
theorem cbest_any (v : Value) (L : List Int) (most : Int) (w : World) (hv : Sl w v (ivs L)) (hl : L.length ≤ 1048576) :
    Calls Try.prog 15 #[v, .int .i64 most] w fun e w' => e = .returned (bestV L (kk most)) ∧ Kept Nix w w' := by
  obtain ⟨ao, ca, rfl, -⟩ := hv.ints
  obtain ⟨h4, k0, hsz⟩ := part_start w _ rfl
  have H4 := Lib.hid h4
  have K0 := Lib.hid k0
  have HSZ := Lib.hid hsz
  have WD := Lib.hid (cwidth_any _ L _ (hv.nix k0))
  cases hn : nrs L with
  | false =>
    have e1 : cwid L = -1 := by unfold cwid; rw [hn]; rfl
    rw [e1] at WD
    rw [bestV_far hn]
    clear hv hl h4 k0 hsz hn e1
    go_enter Try.func15, Try.ntmps15
    go_upto_region 1 with fail
    generalize w.alloc (.cells #[.int .i64 0, .bool false] 39) = w1 at *
    go_wp2_with (first
      | (go_at_call 16; refine WD.out.mono ?_; rintro e w2 ⟨rfl, rfl⟩; clear WD)
      | (refine wpList_store_row rfl 39 _ _ rfl _ _ rfl rfl 39 _ H4.out size_part rfl (one_part _ _) ?_))
    exact bodyPost_ret (results_part rfl _ _ w.heap.size _ 0 6 rfl (heap_row _ H4.out) rfl rfl rfl) rfl ⟨rfl, K0.out.setRow (.inr (Nat.le_refl _)) _⟩
  | true =>
    have e1 : cwid L = (cw L : Int) := by unfold cwid; rw [hn]; rfl
    rw [e1] at WD
    obtain ⟨M, hM⟩ : ∃ M, (if 30 < most then (30 : Int) else most) = M := ⟨_, rfl⟩
    obtain ⟨m1, m2⟩ := kk_min most M hM
    have BK := Lib.hid (bestk_any _ L M _ (hv.nix k0) hl hn m1)
    rw [m2] at BK
    have hcw := cw_near hn
    have RB := Lib.hid (fun w => raw_any L.length (cw L) w hl (by omega) (by omega))
    rw [show 5 + (L.length : Int) * (cw L : Int) = ((5 + L.length * cw L : Nat) : Int) by simp] at RB
    have t0 : decide (((cw L : Nat) : Int) < 0) = false := decide_eq_false (by omega)
    cases hr : cbR L (kk most) with
    | true =>
      have hr2 := hr
      simp only [cbR, Bool.and_eq_true, decide_eq_true_eq] at hr2
      have t1 : decide (((cw L : Nat) : Int) ≤ 31) = true := decide_eq_true (by omega)
      have t2 : decide (5 + L.length * cw L < sN L (bk L (kk most))) = true := decide_eq_true hr2.2
      rw [bestV_raw hn hr]
      clear hv hl h4 k0 hsz hn e1 m1 m2 hcw hr hr2
      generalize 5 + L.length * cw L = R at *
      generalize sN L (bk L (kk most)) = S at *
      generalize bk L (kk most) = b at *
      generalize cw L = c at *
      generalize L.length = l at *
      go_enter Try.func15, Try.ntmps15
      go_upto_region 1 with fail
      generalize w.alloc (.cells #[.int .i64 0, .bool false] 39) = w1 at *
      go_upto_region 5 with (first
        | (go_at_call 16; refine WD.out.mono ?_; rintro e w2 ⟨rfl, rfl⟩; clear WD)
        | (go_at_call 27; refine BK.out.mono ?_; rintro e w2 ⟨rfl, rfl⟩; clear BK))
      obtain ⟨p1, p2, p3, p4, p5⟩ := part_second w2 _ _ (b : Int) H4.out HSZ.out K0.out _ rfl
      have P1 := Lib.hid p1
      have P2 := Lib.hid p2
      have P3 := Lib.hid p3
      have P5 := Lib.hid (fun cs => heap_row_other (w := w2.alloc (.cells #[.int .i64 (b : Int), .bool false] 39)) cs p4)
      clear p1 p2 p3 p4 p5 hM t0 H4 HSZ K0
      go_upto_region 6 with fail
      generalize w2.alloc (.cells #[.int .i64 (b : Int), .bool false] 39) = w3 at *
      generalize w2.heap.size = g2 at *
      go_wp2_with (first
        | (go_at_call 28; refine (RB.out _).mono ?_; rintro e w4 ⟨rfl, rfl⟩; clear RB)
        | (refine wpList_store_row rfl 39 _ _ rfl _ _ rfl rfl 39 _ P1.out size_part rfl (one_part _ _) ?_)
        | (refine wpList_load_row rfl 39 _ rfl g2 rfl 39 _ (0, 0) _ (heap_row _ P1.out) Try.underlying39 rfl size_part ?_)
        | (refine wpList_store_row rfl 39 _ _ rfl _ _ rfl rfl 39 _ ((P5.out _).trans P2.out) size_part rfl (one_part _ _) ?_))
      exact bodyPost_ret (results_part rfl _ _ w.heap.size _ (R : Int) 0 rfl (heap_row _ ((P5.out _).trans P2.out)) rfl rfl rfl) rfl ⟨rfl, (P3.out.1.setRow (.inr (Nat.le_of_lt P3.out.2)) _).setRow (.inr (Nat.le_refl _)) _⟩
    | false =>
      have hr2 := hr
      simp only [cbR, Bool.and_eq_false_iff, decide_eq_false_iff_not] at hr2
      have t2 : decide (((cw L : Nat) : Int) ≤ 31) = false ∨ (decide (((cw L : Nat) : Int) ≤ 31) = true ∧ decide (5 + L.length * cw L < sN L (bk L (kk most))) = false) := by
        simp only [decide_eq_true_eq, decide_eq_false_iff_not]
        omega
      rw [bestV_k hn hr]
      clear hv hl h4 k0 hsz hn e1 m1 m2 hcw hr hr2
      generalize 5 + L.length * cw L = R at *
      generalize sN L (bk L (kk most)) = S at *
      generalize bk L (kk most) = b at *
      generalize cw L = c at *
      generalize L.length = l at *
      go_enter Try.func15, Try.ntmps15
      go_upto_region 1 with fail
      generalize w.alloc (.cells #[.int .i64 0, .bool false] 39) = w1 at *
      go_upto_region 5 with (first
        | (go_at_call 16; refine WD.out.mono ?_; rintro e w2 ⟨rfl, rfl⟩; clear WD)
        | (go_at_call 27; refine BK.out.mono ?_; rintro e w2 ⟨rfl, rfl⟩; clear BK))
      obtain ⟨p1, p2, p3, p4, p5⟩ := part_second w2 _ _ (b : Int) H4.out HSZ.out K0.out _ rfl
      have P1 := Lib.hid p1
      have P2 := Lib.hid p2
      have P3 := Lib.hid p3
      have P5 := Lib.hid (fun cs => heap_row_other (w := w2.alloc (.cells #[.int .i64 (b : Int), .bool false] 39)) cs p4)
      clear p1 p2 p3 p4 p5 hM t0 H4 HSZ K0
      go_upto_region 6 with fail
      generalize w2.alloc (.cells #[.int .i64 (b : Int), .bool false] 39) = w3 at *
      generalize w2.heap.size = g2 at *
      rcases t2 with t1 | ⟨t1, t2⟩
      all_goals
        go_wp2_with (first
          | (go_at_call 28; refine (RB.out _).mono ?_; rintro e w4 ⟨rfl, rfl⟩; clear RB)
          | (refine wpList_load_row rfl 39 _ rfl g2 rfl 39 _ (0, 0) _ P1.out Try.underlying39 rfl size_part ?_)
          | (refine wpList_store_row rfl 39 _ _ rfl _ _ rfl rfl 39 _ P2.out size_part rfl (one_part _ _) ?_))
        exact bodyPost_ret (results_part rfl _ _ w.heap.size _ (S : Int) 0 rfl (heap_row _ P2.out) rfl rfl rfl) rfl ⟨rfl, P3.out.1.setRow (.inr (Nat.le_refl _)) _⟩

end Go.Proofs.Ytliggpidkdiinaa

namespace Go.Proofs.Ytliggpidkdiinaa
open Go.RowKit Bx

set_option maxHeartbeats 400000 in
theorem refK_any (n : Int) (w : World) : Calls Try.prog 56 #[.int .i64 n] w fun e w' => e = .returned (.int .i64 (kk n : Nat)) ∧ w = w' := by
  have hw : (kk n : Int) = max 0 (min n 30) := by unfold kk; omega
  have HW := Lib.hid hw
  clear hw
  go_enter Try.func56, Try.ntmps56
  go_wp2
  all_goals
    go_ret
    exact ⟨ret_int (by rw [HW.out]; omega), rfl⟩

set_option maxHeartbeats 400000 in
theorem refFold_any (n : Int) (w : World) (h0 : -9223372036854775808 ≤ n) (h1 : n ≤ 9223372036854775807) : Calls Try.prog 57 #[.int .i64 n] w fun e w' => e = .returned (.int .u64 (fd n : Nat)) ∧ w = w' := by
  have hw : (fd n : Int) = if 0 ≤ n then 2 * n else -(2 * n) - 1 := by unfold fd; split <;> omega
  have HW := Lib.hid hw
  clear hw
  by_cases hn : 0 ≤ n
  · have w1 : IntKind.u64.wrap n = n := by rw [IntKind.wrap_u64]; omega
    go_enter Try.func57, Try.ntmps57
    go_wp2
    go_ret
    refine ⟨ret_int ?_, rfl⟩
    rw [HW.out, if_pos hn]
  · go_enter Try.func57, Try.ntmps57
    go_wp2
    go_ret
    refine ⟨ret_int ?_, rfl⟩
    rw [HW.out, if_neg (by omega)]
    try simp only [IntKind.wrap_u64]
    omega

set_option maxHeartbeats 400000 in
theorem refNear_any (n : Int) (w : World) : Calls Try.prog 24 #[.int .i64 n] w fun e w' => e = .returned (.bool (nr n)) ∧ w = w' := by
  go_enter Try.func24, Try.ntmps24
  go_wp2
  all_goals
    go_ret
    refine ⟨congrArg (fun b => Ending.returned (Value.bool b)) ?_, rfl⟩
    simp only [nr]
    first
      | (rw [decide_eq_true (p := -8589934592 ≤ n) (by omega), Bool.true_and]; exact decide_eq_decide.2 (by omega))
      | (rw [decide_eq_false (p := -8589934592 ≤ n) (by omega), Bool.false_and])

def HighInv (w : World) (n k : Int) (a : Act) (w' : World) : Prop :=
  w' = w ∧ a.defers = [] ∧ a.tmps.size = 18 ∧ a.tmps[1]? = some (.int .i64 k) ∧ ∃ i, i ≤ kk k ∧ a.tmps[5]? = some (.int .u64 ((fd n / 2 ^ i : Nat) : Int)) ∧ a.tmps[6]? = some (.int .i64 ((i : Nat) : Int))

set_option maxHeartbeats 400000 in
theorem refHigh_any (n k : Int) (w : World) (h0 : -9223372036854775808 ≤ n) (h1 : n ≤ 9223372036854775807) : Calls Try.prog 55 #[.int .i64 n, .int .i64 k] w fun e w' => e = .returned (.int .u64 ((fd n / 2 ^ kk k : Nat) : Int)) ∧ w = w' := by
  have HF := Lib.hid (refFold_any n w h0 h1)
  have HK := Lib.hid (refK_any k)
  have hkl := kk_le k
  have hfl := fd_lt h0 h1
  go_enter Try.func55, Try.ntmps55
  go_wp2_with (go_at_call 57; refine HF.out.mono ?_; rintro e w' ⟨rfl, rfl⟩)
  refine wp_loop (HighInv w n k) (fun a _ => kk k - (intOf (a.tmps.getD 6 undef)).toNat) ?_ ?_
  · exact ⟨rfl, rfl, rfl, rfl, 0, Nat.zero_le _, by simp, rfl⟩
  · rintro ⟨tm, df⟩ w1 ⟨rfl, rfl, hs, h1, i, hi, h5, h6⟩
    simp only at hs h1 h5 h6
    obtain ⟨f, hf, hg⟩ := fr_open hs
    have e1 := hg _ _ h1
    have e5 := hg _ _ h5
    have e6 := hg _ _ h6
    simp only [List.range, List.range.loop, List.map] at hf
    rw [e1, e5, e6] at hf
    clear e1 e5 e6 hg hs h1 h5 h6 HF
    subst hf
    have hx : fd n / 2 ^ i ≤ fd n := Nat.div_le_self _ _
    have hnx : fd n / 2 ^ (i + 1) = fd n / 2 ^ i / 2 := by rw [Nat.pow_succ, Nat.div_div_eq_div_mul]
    have HNX := Lib.hid hnx
    by_cases hlt : i < kk k
    · generalize fd n / 2 ^ i = x at *
      clear hnx
      go_wp2_with (go_at_call 56; refine (HK.out _).mono ?_; rintro e w' ⟨rfl, rfl⟩)
      refine ⟨⟨rfl, rfl, rfl, rfl, i + 1, by omega, ?_, rfl⟩, ?_⟩
      · rw [HNX.out]; rfl
      · simp [intOf]; omega
    · obtain rfl : i = kk k := by omega
      clear hnx HNX hlt hi
      go_wp2_with (go_at_call 56; refine (HK.out _).mono ?_; rintro e w' ⟨rfl, rfl⟩)
      go_ret
      exact ⟨rfl, rfl⟩

set_option maxHeartbeats 400000 in
theorem refSize_any (n k : Int) (w : World) : Calls Try.prog 52 #[.int .i64 n, .int .i64 k] w fun e w' => e = .returned (.int .i64 (sz n k)) ∧ w = w' := by
  by_cases hn : nr n = true
  · have e1 : sz n k = ((fd n / 2 ^ kk k : Nat) : Int) + 1 + (kk k : Int) := by simp [sz, hn]
    have hkl := kk_le k
    have hh := high_lt hn (kk k)
    have hb := near_bounds hn
    have HN := Lib.hid (refNear_any n w)
    rw [hn] at HN
    have HH := Lib.hid (refHigh_any n k w (by omega) (by omega))
    have HK := Lib.hid (refK_any k w)
    rw [e1]
    clear e1 hn hb
    generalize fd n / 2 ^ kk k = x at *
    generalize kk k = y at *
    go_enter Try.func52, Try.ntmps52
    go_wp2_with (first | (go_at_call 24; refine HN.out.mono ?_; rintro e w' ⟨rfl, rfl⟩) | (go_at_call 56; refine HK.out.mono ?_; rintro e w' ⟨rfl, rfl⟩) | (go_at_call 55; refine HH.out.mono ?_; rintro e w' ⟨rfl, rfl⟩))
    go_ret
    exact ⟨rfl, rfl⟩
  · have e1 : sz n k = -1 := by simp [sz, hn]
    have hn' : nr n = false := by simpa using hn
    have HN := Lib.hid (refNear_any n w)
    rw [hn'] at HN
    rw [e1]
    clear e1 hn hn'
    go_enter Try.func52, Try.ntmps52
    go_wp2_with (go_at_call 24; refine HN.out.mono ?_; rintro e w' ⟨rfl, rfl⟩)
    go_ret
    exact ⟨rfl, rfl⟩

end Go.Proofs.Ytliggpidkdiinaa

namespace Go.Proofs.Ytliggpidkdiinaa
open Go.RowKit Bx

theorem eq_part (a b : Int) (r s : Bool) (w : World) : (Op.equalIn 10000 39 (.agg #[.int .i64 a, .bool r]) (.agg #[.int .i64 b, .bool s])).run Try.prog w = .ok (a == b && r == s) w := by
  rw [show (10000 : Nat) = 9999 + 1 from rfl]
  go_simp
  by_cases h1 : a = b <;> by_cases h2 : r = s <;> simp [h1, h2]

def NrsInv (v : Value) (L : List Int) (w : World) (a : Act) (w' : World) : Prop :=
  a.defers = [] ∧ a.tmps.size = 18 ∧ a.tmps[0]? = some v ∧ ∃ i : Nat, i ≤ L.length ∧ a.tmps[3]? = some (.int .i64 (i : Int)) ∧ nrs (L.take i) = true ∧ w' = w

set_option maxHeartbeats 1000000 in
theorem rnears_any (v : Value) (L : List Int) (w : World) (hv : Sl w v (ivs L)) : Calls Try.prog 13 #[v] w fun e w' => e = .returned (.bool (nrs L)) ∧ w' = w := by
  obtain ⟨ao, ca, rfl, h1, h2, -⟩ := hv.ints
  have HV := Lib.hid hv
  have HL := Lib.hid (show L.length ≤ 9223372036854775807 by simp only [maxLen] at h2; omega)
  obtain ⟨q, hq⟩ : ∃ q, nrs L = q := ⟨_, rfl⟩
  rw [hq]
  have HE := Lib.hid hq
  clear hv h1 h2 hq
  go_enter Try.func13, Try.ntmps13
  go_wp2
  refine wp_loop (NrsInv (.slice ao L.length ca) L w) (fun a _ => L.length - (intOf (a.tmps.getD 3 undef)).toNat) ?_ ?_
  · exact ⟨rfl, rfl, rfl, 0, Nat.zero_le _, rfl, rfl, rfl⟩
  · rintro ⟨tm, df⟩ w1 ⟨rfl, hs, e0, i, hi, e3, hn, rfl⟩
    simp only at hs e0 e3
    obtain ⟨f, hf, hg⟩ := fr_open hs
    have g0 := hg _ _ e0
    have g3 := hg _ _ e3
    simp only [List.range, List.range.loop, List.map] at hf
    rw [g0, g3] at hf
    clear g0 g3 hg hs e0 e3
    subst hf
    have HN := Lib.hid hn
    clear hn
    by_cases hlt : i < L.length
    · obtain ⟨b1, o1, rfl, hc1⟩ := cell_kept HV.out i hlt
      have x1 := hc1 _ (Kept.refl _ _)
      have hdd : decide (i < L.length) = true := decide_eq_true hlt
      have hi1 : (i : Int) < (L.length : Int) := by omega
      have HI := Lib.hid hlt
      have HW := Lib.hid (show wrap64 ((i : Int) + 1) = ((i + 1 : Nat) : Int) by have := HL.out; rw [w64_in _ (by omega)]; omega)
      have NR := Lib.hid (refNear_any (L.getD i 0) w1)
      clear hc1
      cases hr : nr (L.getD i 0) with
      | true =>
        have HN2 := Lib.hid (nrs_step HN.out hlt hr)
        rw [hr] at NR
        clear hlt hi hr
        generalize L.getD i 0 = x at *
        go_wp2_with (go_at_call 24; refine NR.out.mono ?_; rintro e w2 ⟨rfl, rfl⟩)
        rw [HW.out]
        exact ⟨⟨rfl, rfl, rfl, i + 1, HI.out, rfl, HN2.out, rfl⟩, nearer HI.out rfl⟩
      | false =>
        have hq := HE.out
        rw [nrs_not hlt hr] at hq
        rw [hr] at NR
        subst hq
        clear hlt hi hr HE
        generalize L.getD i 0 = x at *
        go_wp2_with (go_at_call 24; refine NR.out.mono ?_; rintro e w2 ⟨rfl, rfl⟩)
        go_ret
        exact ⟨rfl, rfl⟩
    · have hie : i = L.length := by omega
      subst hie
      have hdd : decide (L.length < L.length) = false := decide_eq_false hlt
      have hn := HN.out
      rw [List.take_length, HE.out] at hn
      subst hn
      clear hlt hi
      go_wp2
      go_ret
      exact ⟨rfl, rfl⟩

end Go.Proofs.Ytliggpidkdiinaa

namespace Go.Proofs.Ytliggpidkdiinaa
open Go.RowKit Bx

def RCBInv (v : Value) (L : List Int) (k : Int) (w : World) (a : Act) (w' : World) : Prop :=
  a.defers = [] ∧ a.tmps.size = 27 ∧ a.tmps[0]? = some v ∧ a.tmps[1]? = some (.int .i64 k) ∧ ∃ i : Nat, i ≤ L.length ∧ a.tmps[7]? = some (.int .i64 (i : Int)) ∧ a.tmps[6]? = some (.int .i64 (sN (L.take i) (kk k) : Int)) ∧ w' = w

set_option maxHeartbeats 1000000 in
theorem rcbits_any (v : Value) (L : List Int) (k : Int) (w : World) (hv : Sl w v (ivs L)) (hl : L.length ≤ 1048576) :
    Calls Try.prog 46 #[v, .int .i64 k] w fun e w' => e = .returned (.int .i64 (cbits L k)) ∧ w' = w := by
  obtain ⟨ao, ca, rfl, -⟩ := hv.ints
  have NR := Lib.hid (rnears_any _ L w hv)
  cases hn : nrs L with
  | false =>
    rw [hn] at NR
    have hq : cbits L k = -1 := by unfold cbits; rw [if_neg (by rw [hn]; simp)]
    rw [hq]
    clear hv hl hn hq
    go_enter Try.func46, Try.ntmps46
    go_wp2_with (go_at_call 13; refine NR.out.mono ?_; rintro e w2 ⟨rfl, rfl⟩; clear NR)
    go_ret
    exact ⟨rfl, rfl⟩
  | true =>
    rw [hn] at NR
    have hq : cbits L k = (sN L (kk k) : Int) := by unfold cbits; rw [if_pos hn]
    rw [hq]
    have HV := Lib.hid hv
    have HL := Lib.hid hl
    have HN := Lib.hid (fun i (hi : i < L.length) => cb_nums (k := k) hi hl (by
      rw [← List.take_append_drop i L, nrs_append] at hn
      exact (Bool.and_eq_true_iff.1 hn).1) (nrs_get hn i hi))
    clear hv hl hn hq
    go_enter Try.func46, Try.ntmps46
    go_wp2_with (go_at_call 13; refine NR.out.mono ?_; rintro e w2 ⟨rfl, rfl⟩; clear NR)
    refine wp_loop (RCBInv (.slice ao L.length ca) L k w2) (fun a _ => L.length - (intOf (a.tmps.getD 7 undef)).toNat) ?_ ?_
    · exact ⟨rfl, rfl, rfl, rfl, 0, Nat.zero_le _, rfl, rfl, rfl⟩
    · rintro ⟨tm, df⟩ w1 ⟨rfl, hs, e0, e1, i, hi, e7, e6, rfl⟩
      simp only at hs e0 e1 e7 e6
      obtain ⟨f, hf, hg⟩ := fr_open hs
      have g0 := hg _ _ e0
      have g1 := hg _ _ e1
      have g7 := hg _ _ e7
      have g6 := hg _ _ e6
      simp only [List.range, List.range.loop, List.map] at hf
      rw [g0, g1, g7, g6] at hf
      clear g0 g1 g7 g6 hg hs e0 e1 e7 e6
      subst hf
      by_cases hlt : i < L.length
      · obtain ⟨b1, o1, rfl, hc1⟩ := cell_kept HV.out i hlt
        have x1 := hc1 _ (Kept.refl _ _)
        have hdd : decide (i < L.length) = true := decide_eq_true hlt
        have hi1 : (i : Int) < (L.length : Int) := by omega
        have HI := Lib.hid hlt
        obtain ⟨m1, m2, -⟩ := HN.out i hlt
        have M := Lib.hid (And.intro m1 m2)
        have SZ := Lib.hid (refSize_any (L.getD i 0) k w1)
        clear hc1 hlt hi m1 m2
        generalize sz (L.getD i 0) k = s at *
        generalize L.getD i 0 = x at *
        generalize hs1 : sN (L.take (i + 1)) (kk k) = s1 at *
        have HS1 := Lib.hid hs1
        clear hs1
        generalize sN (L.take i) (kk k) = s0 at *
        go_wp2_with (go_at_call 52; refine SZ.out.mono ?_; rintro e w2 ⟨rfl, rfl⟩)
        rw [M.out.1, M.out.2]
        exact ⟨⟨rfl, rfl, rfl, rfl, i + 1, HI.out, rfl, by rw [HS1.out]; rfl, rfl⟩, nearer HI.out rfl⟩
      · have hie : i = L.length := by omega
        subst hie
        have hdd : decide (L.length < L.length) = false := decide_eq_false hlt
        rw [List.take_length]
        clear hlt hi
        go_wp2
        go_ret
        exact ⟨rfl, rfl⟩

def RCWInv (v : Value) (W : Nat) (w : World) (a : Act) (w' : World) : Prop :=
  a.defers = [] ∧ a.tmps.size = 43 ∧ a.tmps[0]? = some v ∧ ∃ j : Nat, j ≤ W ∧ a.tmps[4]? = some (.int .i64 (j : Int)) ∧ w' = w

def RCWIn (v : Value) (L : List Int) (j : Nat) (w : World) (a : Act) (w' : World) : Prop :=
  a.defers = [] ∧ a.tmps.size = 43 ∧ a.tmps[0]? = some v ∧ a.tmps[4]? = some (.int .i64 (j : Int)) ∧ ∃ i : Nat, i ≤ L.length ∧ a.tmps[6]? = some (.int .i64 (i : Int)) ∧ a.tmps[5]? = some (.bool (decide (cw (L.take i) ≤ j))) ∧ w' = w

theorem inD_zero (j : Nat) (h1 : 0 < j) (h2 : j ≤ 62) : inD 0 (j : Int) = true := by
  rw [in_some 0 j (by omega) (by omega)]
  have hp : (0 : Int) < 2 ^ ((j : Int).toNat - 1) := Int.pow_pos (by decide)
  generalize (2 : Int) ^ ((j : Int).toNat - 1) = t at *
  simp only [Bool.and_eq_true, decide_eq_true_eq]
  omega

theorem rcw_in {x : Int} {j : Nat} (hj : j ≤ 62) : (inD x (j : Int) = true ∧ blen (fd x) ≤ j) ∨ (inD x (j : Int) = false ∧ 0 < j ∧ ¬ blen (fd x) ≤ j) ∨ (inD x (j : Int) = false ∧ j = 0 ∧ x ≠ 0 ∧ ¬ blen (fd x) ≤ j) ∨ (inD x (j : Int) = false ∧ j = 0 ∧ x = 0 ∧ blen (fd x) ≤ j) := by
  have h := fits_in x j hj
  cases hi : inD x (j : Int) with
  | true => exact .inl ⟨rfl, h.1 (.inl hi)⟩
  | false =>
    by_cases h0 : x = 0
    · by_cases hj0 : j = 0
      · exact .inr (.inr (.inr ⟨rfl, hj0, h0, h.1 (.inr h0)⟩))
      · subst h0
        rw [inD_zero j (by omega) hj] at hi
        cases hi
    · have hb : ¬ blen (fd x) ≤ j := fun hb => by
        rcases h.2 hb with h1 | h1
        · rw [hi] at h1; cases h1
        · exact h0 h1
      by_cases hj0 : j = 0
      · exact .inr (.inr (.inl ⟨rfl, hj0, h0, hb⟩))
      · exact .inr (.inl ⟨rfl, by omega, hb⟩)

theorem rcw_yes {L : List Int} {i j : Nat} (hi : i < L.length) (h : blen (fd (L.getD i 0)) ≤ j) : decide (cw (L.take (i + 1)) ≤ j) = decide (cw (L.take i) ≤ j) := by
  rw [cw_step hi]
  exact decide_eq_decide.2 (by omega)

theorem rcw_no {L : List Int} {i j : Nat} (hi : i < L.length) (h : ¬ blen (fd (L.getD i 0)) ≤ j) : decide (cw (L.take (i + 1)) ≤ j) = false := by
  rw [cw_step hi]
  exact decide_eq_false (by omega)

set_option maxRecDepth 10000 in
set_option maxHeartbeats 2000000 in
theorem rcwidth_any (v : Value) (L : List Int) (w : World) (hv : Sl w v (ivs L)) (hl : L.length ≤ 1048576) :
    Calls Try.prog 47 #[v] w fun e w' => e = .returned (.int .i64 (cwid L)) ∧ w' = w := by
  obtain ⟨ao, ca, rfl, -⟩ := hv.ints
  have NR := Lib.hid (rnears_any _ L w hv)
  cases hn : nrs L with
  | false =>
    rw [hn] at NR
    have hq : cwid L = -1 := by unfold cwid; rw [if_neg (by rw [hn]; simp)]
    rw [hq]
    clear hv hn hq
    go_enter Try.func47, Try.ntmps47
    go_wp2_with (go_at_call 13; refine NR.out.mono ?_; rintro e w2 ⟨rfl, rfl⟩; clear NR)
    go_ret
    exact ⟨rfl, rfl⟩
  | true =>
    rw [hn] at NR
    have hq : cwid L = (cw L : Int) := by unfold cwid; rw [if_pos hn]
    rw [hq]
    have HV := Lib.hid hv
    have HL := Lib.hid hl
    have HB := Lib.hid (cw_near hn)
    clear hv hl hn hq
    go_enter Try.func47, Try.ntmps47
    go_wp2_with (go_at_call 13; refine NR.out.mono ?_; rintro e w2 ⟨rfl, rfl⟩; clear NR)
    refine wp_loop (RCWInv (.slice ao L.length ca) (cw L) w2) (fun a _ => 60 - (intOf (a.tmps.getD 4 undef)).toNat) ?_ ?_
    · exact ⟨rfl, rfl, rfl, 0, Nat.zero_le _, rfl, rfl⟩
    · rintro ⟨tm, df⟩ w1 ⟨rfl, hs, e0, j, hj, e4, rfl⟩
      simp only at hs e0 e4
      obtain ⟨f, hf, hg⟩ := fr_open hs
      have g0 := hg _ _ e0
      have g4 := hg _ _ e4
      simp only [List.range, List.range.loop, List.map] at hf
      rw [g0, g4] at hf
      clear g0 g4 hg hs e0 e4
      subst hf
      have h40 : decide ((j : Int) < 40) = true := decide_eq_true (by have := HB.out; omega)
      have HJ := Lib.hid hj
      have HJ1 := Lib.hid (show wrap64 ((j : Int) + 1) = ((j + 1 : Nat) : Int) by have := HB.out; rw [w64_in _ (by omega)]; omega)
      clear hj
      go_wp2
      clear h40
      refine wp_loop (RCWIn (.slice ao L.length ca) L j w1) (fun a _ => L.length - (intOf (a.tmps.getD 6 undef)).toNat) ?_ ?_
      · exact ⟨rfl, rfl, rfl, rfl, 0, Nat.zero_le _, rfl, by simp [cw], rfl⟩
      · rintro ⟨tm, df⟩ w3 ⟨rfl, hs, e0, e4, i, hi, e6, e5, rfl⟩
        simp only at hs e0 e4 e6 e5
        obtain ⟨f2, hf, hg⟩ := fr_open hs
        have g0 := hg _ _ e0
        have g4 := hg _ _ e4
        have g6 := hg _ _ e6
        have g5 := hg _ _ e5
        simp only [List.range, List.range.loop, List.map] at hf
        rw [g0, g4, g6, g5] at hf
        clear g0 g4 g6 g5 hg hs e0 e4 e6 e5
        subst hf
        by_cases hlt : i < L.length
        · obtain ⟨b1, o1, rfl, hc1⟩ := cell_kept HV.out i hlt
          have x1 := hc1 _ (Kept.refl _ _)
          have hdd : decide (i < L.length) = true := decide_eq_true hlt
          have hi1 : (i : Int) < (L.length : Int) := by omega
          have HI := Lib.hid hlt
          have HI1 := Lib.hid (show wrap64 ((i : Int) + 1) = ((i + 1 : Nat) : Int) by have := HL.out; rw [w64_in _ (by omega)]; omega)
          have IN := Lib.hid (rin_any (L.getD i 0) j w3)
          have YES := Lib.hid (fun h => rcw_yes (j := j) hlt h)
          have NO := Lib.hid (fun h => rcw_no (j := j) hlt h)
          rcases rcw_in (x := L.getD i 0) (j := j) (by have := HJ.out; have := HB.out; omega) with ⟨t1, t2⟩ | ⟨t1, t3, t2⟩ | ⟨t1, t3, t4, t2⟩ | ⟨t1, t3, t4, t2⟩
          · have ST := Lib.hid (YES.out t2)
            rw [t1] at IN
            clear t1 t2 YES NO hlt hi hc1
            generalize L.getD i 0 = x at *
            generalize decide (cw (L.take i) ≤ j) = fs at *
            go_wp2_with (go_at_call 53; refine IN.out.mono ?_; rintro e w4 ⟨rfl, rfl⟩; clear IN)
            rw [HI1.out]
            exact ⟨⟨rfl, rfl, rfl, rfl, i + 1, HI.out, rfl, by rw [ST.out]; rfl, rfl⟩, nearer HI.out rfl⟩
          · have ST := Lib.hid (NO.out t2)
            have t5 : decide (0 < j) = true := decide_eq_true t3
            rw [t1] at IN
            clear t1 t2 t3 YES NO hlt hi hc1
            generalize L.getD i 0 = x at *
            generalize decide (cw (L.take i) ≤ j) = fs at *
            go_wp2_with (go_at_call 53; refine IN.out.mono ?_; rintro e w4 ⟨rfl, rfl⟩; clear IN)
            rw [HI1.out]
            exact ⟨⟨rfl, rfl, rfl, rfl, i + 1, HI.out, rfl, by rw [ST.out]; rfl, rfl⟩, nearer HI.out rfl⟩
          · have ST := Lib.hid (NO.out t2)
            subst t3
            have t5 : (L.getD i 0 != 0) = true := bne_iff_ne.2 t4
            rw [t1] at IN
            clear t1 t2 t4 YES NO hlt hi hc1
            generalize L.getD i 0 = x at *
            generalize decide (cw (L.take i) ≤ 0) = fs at *
            go_wp2_with (go_at_call 53; refine IN.out.mono ?_; rintro e w4 ⟨rfl, rfl⟩; clear IN)
            rw [HI1.out]
            exact ⟨⟨rfl, rfl, rfl, rfl, i + 1, HI.out, rfl, by rw [ST.out]; rfl, rfl⟩, nearer HI.out rfl⟩
          · have ST := Lib.hid (YES.out t2)
            subst t3
            have t5 : (L.getD i 0 != 0) = false := by rw [t4]; rfl
            rw [t1] at IN
            clear t1 t2 t4 YES NO hlt hi hc1
            generalize L.getD i 0 = x at *
            generalize decide (cw (L.take i) ≤ 0) = fs at *
            go_wp2_with (go_at_call 53; refine IN.out.mono ?_; rintro e w4 ⟨rfl, rfl⟩; clear IN)
            rw [HI1.out]
            exact ⟨⟨rfl, rfl, rfl, rfl, i + 1, HI.out, rfl, by rw [ST.out]; rfl, rfl⟩, nearer HI.out rfl⟩
        · have hie : i = L.length := by omega
          subst hie
          have hdd : decide (L.length < L.length) = false := decide_eq_false hlt
          rw [List.take_length]
          clear hlt hi
          by_cases hcj : cw L ≤ j
          · have hje : j = cw L := by have := HJ.out; omega
            rw [decide_eq_true hcj]
            have HJE := Lib.hid hje
            clear hcj hje
            go_wp2
            go_ret
            exact ⟨by rw [HJE.out]; rfl, rfl⟩
          · rw [decide_eq_false hcj]
            have HJL := Lib.hid (show j + 1 ≤ cw L by omega)
            have HM := Lib.hid (show 60 - (j + 1) < 60 - j by have := HB.out; omega)
            clear hcj
            go_wp2
            rw [HJ1.out]
            exact ⟨⟨rfl, rfl, rfl, j + 1, HJL.out, rfl, rfl⟩, HM.out⟩

theorem raw_nums {l : Nat} {k : Int} (hl : l ≤ 1048576) (h0 : 0 ≤ k) (h1 : k ≤ 31) : wrap64 (k * (l : Int)) = k * (l : Int) ∧ wrap64 (5 + k * (l : Int)) = 5 + k * (l : Int) := by
  have e1 : k * (l : Int) ≤ 31 * (l : Int) := Int.mul_le_mul_of_nonneg_right h1 (by omega)
  have e2 : 0 ≤ k * (l : Int) := Int.mul_nonneg h0 (by omega)
  exact ⟨w64_in _ (by omega), w64_in _ (by omega)⟩

set_option maxHeartbeats 1000000 in
theorem rceach_any (v : Value) (L : List Int) (k : Int) (r : Bool) (w : World) (hv : Sl w v (ivs L)) (hl : L.length ≤ 1048576) :
    Calls Try.prog 37 #[v, .agg #[.int .i64 k, .bool r]] w fun e w' => e = .returned (.int .i64 (ceach L k r)) ∧ Kept Nix w w' := by
  obtain ⟨ao, ca, rfl, -⟩ := hv.ints
  have k1 : Kept Nix w (w.alloc (.cells #[.int .i64 k, .bool r] 39)) := (Kept.refl _ w).alloc _
  obtain ⟨y0, y1, -⟩ := part_cells w k r 39 _ (Kept.refl _ _)
  have K1 := Lib.hid k1
  have HV := hv.nix k1
  cases r with
  | false =>
    have HB := Lib.hid (rcbits_any _ L k _ HV hl)
    have HE := Lib.hid (show ceach L k false = cbits L k from rfl)
    generalize ceach L k false = q at *
    generalize cbits L k = s at *
    clear hv k1 HV hl
    go_enter Try.func37, Try.ntmps37
    go_upto_region 1 with fail
    generalize w.alloc (.cells #[.int .i64 k, .bool false] 39) = w1 at *
    generalize w.heap.size = g at *
    go_wp2_with (go_at_call 46; refine HB.out.mono ?_; rintro e w2 ⟨rfl, rfl⟩)
    go_ret
    exact ⟨by rw [HE.out]; rfl, K1.out⟩
  | true =>
    have HW := Lib.hid (rcwidth_any _ L _ HV hl)
    have HL := Lib.hid hl
    by_cases hc : nrs L = true ∧ (cw L : Int) ≤ k ∧ k ≤ 31
    · obtain ⟨c1, c2, c3⟩ := hc
      have hq : ceach L k true = 5 + k * (L.length : Int) := by simp [ceach, c1, c2, c3]
      have HQ := Lib.hid hq
      have e1 : cwid L = (cw L : Int) := by simp [cwid, c1]
      rw [e1] at HW
      have t1 : decide ((cw L : Int) < 0) = false := decide_eq_false (by omega)
      have t2 : decide (k < (cw L : Int)) = false := decide_eq_false (by omega)
      have t3 : decide (31 < k) = false := decide_eq_false (by omega)
      have HP := Lib.hid (raw_nums HL.out (by omega) c3)
      generalize ceach L k true = q at *
      clear hv k1 HV hl c1 c2 c3 e1 hq
      generalize cw L = c at *
      generalize L.length = l at *
      go_enter Try.func37, Try.ntmps37
      go_upto_region 1 with fail
      generalize w.alloc (.cells #[.int .i64 k, .bool true] 39) = w1 at *
      generalize w.heap.size = g at *
      go_wp2_with (first | (go_at_call 47; refine HW.out.mono ?_; rintro e w2 ⟨rfl, rfl⟩))
      go_ret
      rw [HP.out.1, HP.out.2]
      exact ⟨by rw [HQ.out]; rfl, K1.out⟩
    · have hq : ceach L k true = -1 := by simp only [ceach, if_true]; rw [if_neg hc]
      have HQ := Lib.hid hq
      have hcases : decide (cwid L < 0) = true ∨ (decide (cwid L < 0) = false ∧ decide (k < cwid L) = true) ∨ (decide (cwid L < 0) = false ∧ decide (k < cwid L) = false ∧ decide (31 < k) = true) := by
        simp only [decide_eq_true_eq, decide_eq_false_iff_not]
        unfold cwid
        cases hn : nrs L with
        | false => simp
        | true =>
          simp only [hn, true_and] at hc
          rw [if_pos rfl]
          omega
      generalize cwid L = c at *
      generalize ceach L k true = q at *
      clear hv k1 HV hl hc hq
      generalize L.length = l at *
      go_enter Try.func37, Try.ntmps37
      go_upto_region 1 with fail
      generalize w.alloc (.cells #[.int .i64 k, .bool true] 39) = w1 at *
      generalize w.heap.size = g at *
      rcases hcases with a1 | ⟨a1, a2⟩ | ⟨a1, a2, a3⟩
      all_goals
        go_wp2_with (first | (go_at_call 47; refine HW.out.mono ?_; rintro e w2 ⟨rfl, rfl⟩))
        go_ret
        exact ⟨by rw [HQ.out]; rfl, K1.out⟩

end Go.Proofs.Ytliggpidkdiinaa

namespace Go.Proofs.Ytliggpidkdiinaa
open Go.RowKit Bx

theorem info_part : (Try.prog.info? 39).map (fun i => (i.zero, i.size, i.bytes)) = some (some (.agg #[.int .i64 0, .bool false]), 2, 16) := by kernel_rfl

/-- The cells of parts. -/
def pcs : List (Int × Bool) → List Value
  | [] => []
  | p :: ps => .int .i64 p.1 :: .bool p.2 :: pcs ps

theorem pcs_append (A B : List (Int × Bool)) : pcs (A ++ B) = pcs A ++ pcs B := by
  induction A with
  | nil => rfl
  | cons p A ih => simp [pcs, ih]

theorem pcs_get (ps : List (Int × Bool)) (i : Nat) (hi : i < ps.length) : (pcs ps)[2 * i]? = some (.int .i64 (ps.getD i (0, false)).1) ∧ (pcs ps)[2 * i + 1]? = some (.bool (ps.getD i (0, false)).2) := by
  induction ps generalizing i with
  | nil => simp at hi
  | cons p ps ih =>
    cases i with
    | zero => simp [pcs]
    | succ i =>
      have := ih i (by simpa using hi)
      rw [show 2 * (i + 1) = 2 * i + 1 + 1 by omega]
      simpa [pcs] using this

/-- All ways, in order. -/
def kways (m : Nat) : List (Int × Bool) := (List.range m).map (fun k : Nat => ((k : Int), false))
def wys (L : List Int) (m : Nat) : List (Int × Bool) := kways (m + 1) ++ if cw L ≤ 31 then [((cw L : Int), true)] else []

theorem kways_succ (m : Nat) : kways (m + 1) = kways m ++ [((m : Int), false)] := by simp [kways, List.range_succ]
theorem kways_length (m : Nat) : (kways m).length = m := by simp [kways]

theorem src_part (w : World) (x y : Value) (t : TypeId) (h1 : x.oneCell' = true) (h2 : y.oneCell' = true) : SrcIs (w.alloc (.cells #[x, y] t)) 2 (some ⟨w.heap.size, 0, none⟩) 1 1 [x, y] := by
  refine ⟨rfl, fun h => by simp at h, ?_, by simp [h1, h2]⟩
  rintro ad h j u hu
  obtain rfl := Option.some.inj h
  match j, hu with
  | 0, hu =>
    simp at hu
    subst hu
    simp [Addr.add]
  | 1, hu =>
    simp at hu
    subst hu
    simp [Addr.add]

def WaysInv (v : Value) (most : Int) (w : World) (a : Act) (w' : World) : Prop :=
  a.defers = [] ∧ a.tmps.size = 38 ∧ a.tmps[0]? = some v ∧ a.tmps[1]? = some (.int .i64 most) ∧ ∃ k : Nat, 1 ≤ k ∧ k ≤ kk most + 1 ∧ a.tmps[6]? = some (.int .i64 (k : Int)) ∧ ∃ u, a.tmps[5]? = some u ∧ w'.ownsRow w.heap.size 39 2 u k (pcs (kways k)) ∧ Kept Nix w w'

theorem ways_test (most : Int) (k : Nat) (h1 : 1 ≤ k) (h2 : k ≤ kk most + 1) : (k ≤ kk most ∧ decide ((k : Int) ≤ most) = true ∧ decide ((k : Int) ≤ 30) = true) ∨ (k = kk most + 1 ∧ ((decide ((k : Int) ≤ most) = false) ∨ (decide ((k : Int) ≤ most) = true ∧ decide ((k : Int) ≤ 30) = false))) := by
  simp only [decide_eq_true_eq, decide_eq_false_iff_not]
  unfold kk at *
  omega

set_option maxRecDepth 10000 in
set_option maxHeartbeats 2000000 in
theorem rways_any (v : Value) (L : List Int) (most : Int) (w : World) (hv : Sl w v (ivs L)) (hl : L.length ≤ 1048576) (hn : nrs L = true) :
    Calls Try.prog 45 #[v, .int .i64 most] w fun e w' => ∃ u, e = .returned u ∧ w'.ownsRow w.heap.size 39 2 u (wys L (kk most)).length (pcs (wys L (kk most))) ∧ Kept Nix w w' := by
  obtain ⟨ao, ca, rfl, -⟩ := hv.ints
  have hq : cwid L = (cw L : Int) := by unfold cwid; rw [if_pos hn]
  have WD := fun w' (h : Kept Nix w w') => rcwidth_any _ L w' (hv.nix h) hl
  rw [hq] at WD
  have WD := Lib.hid WD
  have hown := World.ownsRow_lit (base := w.heap.size) (e := 39) (size := 2) w #[.int .i64 0, .bool false] 1 (Nat.le_refl _) (by simp [maxLen]) (by simp)
  have HO := Lib.hid hown
  have HK := Lib.hid ((Kept.refl Nix w).alloc (.cells #[.int .i64 0, .bool false] 39))
  clear hv hl hn hq hown
  go_enter Try.func45, Try.ntmps45
  go_wp2
  refine wp_loop (WaysInv (.slice ao L.length ca) most w) (fun a _ => 60 - (intOf (a.tmps.getD 6 undef)).toNat) ?_ ?_
  · exact ⟨rfl, rfl, rfl, rfl, 1, Nat.le_refl _, by omega, rfl, _, rfl, HO.out, HK.out⟩
  · clear HO HK
    rintro ⟨tm, df⟩ w1 ⟨rfl, hs, e0, e1, k, hk1, hk2, e6, u, e5, ho, hk⟩
    simp only at hs e0 e1 e6 e5
    obtain ⟨f, hf, hg⟩ := fr_open hs
    have g0 := hg _ _ e0
    have g1 := hg _ _ e1
    have g6 := hg _ _ e6
    have g5 := hg _ _ e5
    simp only [List.range, List.range.loop, List.map] at hf
    rw [g0, g1, g6, g5] at hf
    clear g0 g1 g6 g5 hg hs e0 e1 e6 e5
    subst hf
    have HO := Lib.hid ho
    have HK := Lib.hid hk
    clear ho hk
    rcases ways_test most k hk1 hk2 with ⟨hlt, t1, t2⟩ | ⟨hke, ht⟩
    · have hk30 := kk_le most
      have HW := Lib.hid (show wrap64 ((k : Int) + 1) = ((k + 1 : Nat) : Int) by rw [w64_in _ (by omega)]; omega)
      have HM := Lib.hid (show 60 - (k + 1) < 60 - k by omega)
      have HLT := Lib.hid (show k + 1 ≤ kk most + 1 by omega)
      have M3 := Lib.hid (show k + 1 ≤ maxLen by simp only [maxLen]; omega)
      have M4 := Lib.hid (show (k + 1) * 16 ≤ 140737488355328 by omega)
      have O5 := Lib.hid (HO.out.alloc (.cells #[.int .i64 (k : Int), .bool false] 39))
      have HBS := Lib.hid (show w.heap.size ≤ (w1.alloc (.cells #[.int .i64 (k : Int), .bool false] 39)).heap.size from (HK.out.alloc _).size)
      clear hk1 hk2 hlt hk30
      go_wp2_with (
        refine wpList_app _ rfl _ _ 24 rfl w.heap.size 39 (.agg #[.int .i64 0, .bool false]) 2 16 Try.underlying24 info_part rfl (by decide) _ _ _ rfl O5.out _ 1 1 [.int .i64 (k : Int), .bool false] rfl (src_part w1 _ _ _ rfl rfl) M3.out M4.out HBS.out ?_
        intro v6 w6 o6 g6 n6; have k6 : Kept Nix w w6 := (HK.out.alloc _).grown g6 (fun kk hkk => .inr (O5.out.lt kk hkk).1); have K6 := Lib.hid k6; have O6 := Lib.hid o6; clear k6 o6 g6 n6)
      rw [HW.out]
      refine ⟨⟨rfl, rfl, rfl, rfl, k + 1, by omega, HLT.out, rfl, v6, rfl, ?_, K6.out⟩, HM.out⟩
      rw [kways_succ, pcs_append]
      exact O6.out
    · have HKE := Lib.hid hke
      have hk30 := kk_le most
      obtain ⟨uo, uc, rfl, -⟩ := owns_shape HO.out
      have W1 := Lib.hid (WD.out w1 HK.out)
      have t0 : decide ((0 : Int) ≤ (cw L : Int)) = true := decide_eq_true (by omega)
      by_cases hc : cw L ≤ 31
      · have t3 : decide ((cw L : Int) ≤ 31) = true := decide_eq_true (by omega)
        have M3 := Lib.hid (show k + 1 ≤ maxLen by simp only [maxLen]; omega)
        have M4 := Lib.hid (show (k + 1) * 16 ≤ 140737488355328 by omega)
        have O5 := Lib.hid (HO.out.alloc (.cells #[.int .i64 (cw L : Int), .bool true] 39))
        have HBS := Lib.hid (show w.heap.size ≤ (w1.alloc (.cells #[.int .i64 (cw L : Int), .bool true] 39)).heap.size from (HK.out.alloc _).size)
        have HWY := Lib.hid (show wys L (kk most) = kways k ++ [((cw L : Int), true)] by unfold wys; rw [if_pos hc, hke])
        have HWL := Lib.hid (show (wys L (kk most)).length = k + 1 by unfold wys; rw [if_pos hc, hke]; simp [kways_length])
        clear hk1 hk2 hk30 hc hke WD
        generalize hcc : cw L = c at *
        rcases ht with t1 | ⟨t1, t2⟩
        all_goals
          go_wp2_with (first
            | (go_at_call 47; refine W1.out.mono ?_; rintro e w2 ⟨rfl, rfl⟩; clear W1)
            | (refine wpList_app _ rfl _ _ 24 rfl w.heap.size 39 (.agg #[.int .i64 0, .bool false]) 2 16 Try.underlying24 info_part rfl (by decide) _ _ _ rfl O5.out _ 1 1 [.int .i64 (c : Int), .bool true] rfl (src_part _ _ _ _ rfl rfl) M3.out M4.out HBS.out ?_
               intro v6 w6 o6 g6 n6; have k6 : Kept Nix w w6 := (HK.out.alloc _).grown g6 (fun kk hkk => .inr (O5.out.lt kk hkk).1); have K6 := Lib.hid k6; have O6 := Lib.hid o6; clear k6 o6 g6 n6))
          go_ret
          refine ⟨_, rfl, ?_, K6.out⟩
          rw [HWL.out, HWY.out, pcs_append]
          exact O6.out
      · have t3 : decide ((cw L : Int) ≤ 31) = false := decide_eq_false (by omega)
        have HWY := Lib.hid (show wys L (kk most) = kways k by unfold wys; rw [if_neg hc, List.append_nil, hke])
        clear hk1 hk2 hk30 hc hke WD
        generalize hcc : cw L = c at *
        rcases ht with t1 | ⟨t1, t2⟩
        all_goals
          go_wp2_with (first
            | (go_at_call 47; refine W1.out.mono ?_; rintro e w2 ⟨rfl, rfl⟩; clear W1))
          go_ret
          refine ⟨_, rfl, ?_, HK.out⟩
          rw [HWY.out, kways_length]
          exact HO.out

end Go.Proofs.Ytliggpidkdiinaa

namespace Go.Proofs.Ytliggpidkdiinaa
open Go.RowKit Bx

/-- How many bits a way has, by its number. -/
def wayN (L : List Int) (m j : Nat) : Nat := if j ≤ m then sN L j else 5 + L.length * cw L

/-- The first one of the ways up to i that have fewest bits. -/
def bst (L : List Int) (m : Nat) : Nat → Nat
  | 0 => 0
  | i + 1 => if wayN L m (i + 1) < wayN L m (bst L m i) then i + 1 else bst L m i

theorem bst_le (L : List Int) (m i : Nat) : bst L m i ≤ i := by
  induction i with
  | zero => simp [bst]
  | succ i ih => simp only [bst]; split <;> omega

theorem bst_low (L : List Int) (m : Nat) : ∀ i, i ≤ m → bst L m i = bk L i := by
  intro i
  induction i with
  | zero => intro _; rfl
  | succ i ih =>
    intro h
    have h1 := ih (by omega)
    have h2 := bk_le L i
    have e1 : wayN L m (i + 1) = sN L (i + 1) := by unfold wayN; rw [if_pos h]
    have e2 : wayN L m (bk L i) = sN L (bk L i) := by unfold wayN; rw [if_pos (by omega)]
    simp only [bst, bk, h1, e1, e2]

theorem wys_length (L : List Int) (m : Nat) : (wys L m).length = if cw L ≤ 31 then m + 2 else m + 1 := by
  unfold wys
  split <;> simp [kways_length]

theorem wys_low (L : List Int) (m j : Nat) (h : j ≤ m) : (wys L m).getD j (0, false) = ((j : Int), false) := by
  unfold wys kways
  simp only [List.getD_eq_getElem?_getD]
  rw [List.getElem?_append_left (by simp; omega)]
  simp [show j < m + 1 by omega]

theorem wys_last (L : List Int) (m : Nat) (h : cw L ≤ 31) : (wys L m).getD (m + 1) (0, false) = ((cw L : Int), true) := by
  unfold wys
  rw [if_pos h]
  simp only [List.getD_eq_getElem?_getD]
  rw [List.getElem?_append_right (by rw [kways_length]; exact Nat.le_refl _), kways_length]
  simp

theorem way_each {L : List Int} (hn : nrs L = true) {m j : Nat} (hm : m ≤ 30) (h : j < (wys L m).length) : ceach L ((wys L m).getD j (0, false)).1 ((wys L m).getD j (0, false)).2 = (wayN L m j : Int) := by
  rw [wys_length] at h
  by_cases hj : j ≤ m
  · rw [wys_low L m j hj]
    unfold ceach cbits wayN
    rw [if_neg (by simp), if_pos hn, if_pos hj, show kk ((j : Nat) : Int) = j by unfold kk; omega]
  · have hc : cw L ≤ 31 := by
      by_cases hc : cw L ≤ 31
      · exact hc
      · rw [if_neg hc] at h; omega
    rw [if_pos hc] at h
    obtain rfl : j = m + 1 := by omega
    rw [wys_last L m hc]
    unfold ceach wayN
    rw [if_pos rfl, if_pos ⟨hn, by omega, by omega⟩, if_neg (by omega)]
    simp [Int.mul_comm]

/-- The way that is found is the best one. -/
theorem bst_best {L : List Int} (hn : nrs L = true) (m : Nat) : (wys L m).getD (bst L m ((wys L m).length - 1)) (0, false) = (bestK L m, bestR L m) ∧ (wayN L m (bst L m ((wys L m).length - 1)) : Int) = bestN L m := by
  obtain ⟨h1, h2, h3, -⟩ := best_near hn m
  rw [h1, h2, h3, wys_length]
  have hb := bk_le L m
  by_cases hc : cw L ≤ 31
  · rw [if_pos hc, show m + 2 - 1 = m + 1 by omega, bst, bst_low L m m (Nat.le_refl _)]
    have e1 : wayN L m (m + 1) = 5 + L.length * cw L := by unfold wayN; rw [if_neg (by omega)]
    have e2 : wayN L m (bk L m) = sN L (bk L m) := by unfold wayN; rw [if_pos hb]
    rw [e1, e2]
    cases hr : cbR L m with
    | true =>
      have hr2 := hr
      simp only [cbR, Bool.and_eq_true, decide_eq_true_eq] at hr2
      rw [if_pos hr2.2, wys_last L m hc, e1]
      unfold cbK cbN
      rw [if_pos hr, if_pos hr]
      exact ⟨rfl, rfl⟩
    | false =>
      have hr2 := hr
      simp only [cbR, decide_eq_true hc, Bool.true_and, decide_eq_false_iff_not] at hr2
      rw [if_neg hr2, wys_low L m _ hb, e2]
      unfold cbK cbN
      rw [if_neg (by rw [hr]; simp), if_neg (by rw [hr]; simp)]
      exact ⟨rfl, rfl⟩
  · have hr : cbR L m = false := by unfold cbR; rw [decide_eq_false hc]; rfl
    rw [if_neg hc, show m + 1 - 1 = m by omega, bst_low L m m (Nat.le_refl _), wys_low L m _ hb, hr]
    have e2 : wayN L m (bk L m) = sN L (bk L m) := by unfold wayN; rw [if_pos hb]
    rw [e2]
    unfold cbK cbN
    rw [if_neg (by rw [hr]; simp), if_neg (by rw [hr]; simp)]
    exact ⟨rfl, rfl⟩

/-- The cells of a part out of a slice of them, in any world that kept it. -/
theorem part_in {w : World} {base g n cap : Nat} {ps : List (Int × Bool)} (h : w.ownsRow base 39 2 (.slice (some ⟨g, 0, none⟩) n cap) ps.length (pcs ps)) (i : Nat) (hi : i < ps.length) :
    ∀ w', Kept Nix w w' → w'.cell? ⟨g, i * 2, none⟩ = some (.int .i64 (ps.getD i (0, false)).1) ∧ w'.cell? ⟨g, i * 2 + 1, none⟩ = some (.bool (ps.getD i (0, false)).2) := by
  intro w' hk
  have h2 := hk.owns h (fun _ _ h => h)
  obtain ⟨p1, p2⟩ := pcs_get ps i hi
  have c1 := h2.cells (g := g) rfl _ _ p1
  have c2 := h2.cells (g := g) rfl _ _ p2
  rw [Addr.add_lit, Nat.zero_add] at c1 c2
  rw [Nat.mul_comm]
  exact ⟨c1, c2⟩

def RBInv (v : Value) (vu : Value) (L : List Int) (m : Nat) (g : Nat) (w1 : World) (a : Act) (w' : World) : Prop :=
  a.defers = [] ∧ a.tmps.size = 49 ∧ a.tmps[0]? = some v ∧ a.tmps[4]? = some (.pointer (some ⟨g, 0, none⟩)) ∧ a.tmps[8]? = some vu ∧ ∃ i : Nat, 1 ≤ i ∧ i ≤ (wys L m).length ∧ a.tmps[10]? = some (.int .i64 (i : Int)) ∧ a.tmps[9]? = some (.int .i64 (bst L m (i - 1) : Int)) ∧ Kept Nix w1 w'

set_option maxRecDepth 10000 in
set_option maxHeartbeats 4000000 in
theorem rcbest_any (v : Value) (L : List Int) (most : Int) (w : World) (hv : Sl w v (ivs L)) (hl : L.length ≤ 1048576) :
    Calls Try.prog 36 #[v, .int .i64 most] w fun e w' => e = .returned (bestV L (kk most)) ∧ Kept Nix w w' := by
  obtain ⟨ao, ca, rfl, -⟩ := hv.ints
  obtain ⟨h4, k0, hsz⟩ := part_start w _ rfl
  have H4 := Lib.hid h4
  have K0 := Lib.hid k0
  have HSZ := Lib.hid hsz
  have NR := Lib.hid (rnears_any _ L _ (hv.nix k0))
  cases hn : nrs L with
  | false =>
    rw [hn] at NR
    rw [bestV_far hn]
    clear hv hl h4 k0 hsz hn
    go_enter Try.func36, Try.ntmps36
    go_upto_region 1 with fail
    generalize w.alloc (.cells #[.int .i64 0, .bool false] 39) = w1 at *
    go_wp2_with (first
      | (go_at_call 13; refine NR.out.mono ?_; rintro e w2 ⟨rfl, rfl⟩; clear NR)
      | (refine wpList_store_row rfl 39 _ _ rfl _ _ rfl rfl 39 _ H4.out size_part rfl (one_part _ _) ?_))
    exact bodyPost_ret (results_part rfl _ _ w.heap.size _ 0 6 rfl (heap_row _ H4.out) rfl rfl rfl) rfl ⟨rfl, K0.out.setRow (.inr (Nat.le_refl _)) _⟩
  | true =>
    rw [hn] at NR
    have HV := Lib.hid hv
    have HL := Lib.hid hl
    have HN := Lib.hid hn
    have WY := Lib.hid (rways_any _ L most _ (hv.nix k0) hl hn)
    clear hv hl h4 k0 hsz hn
    go_enter Try.func36, Try.ntmps36
    go_upto_region 1 with fail
    generalize w.alloc (.cells #[.int .i64 0, .bool false] 39) = w1 at *
    generalize hg4 : w.heap.size = g4 at *
    have HG4 := Lib.hid hg4
    clear hg4
    go_upto_region 5 with (first
      | (go_at_call 13; refine NR.out.mono ?_; rintro e w2 ⟨rfl, rfl⟩; clear NR)
      | (go_at_call 45; refine WY.out.mono ?_; rintro e w2 ⟨u2, rfl, o2, k2⟩; have O2 := Lib.hid o2; have K2 := Lib.hid k2; clear o2 k2 WY))
    have hn1 : 1 ≤ (wys L (kk most)).length ∧ (wys L (kk most)).length ≤ 32 := by
      have := kk_le most
      rw [wys_length]
      split <;> omega
    obtain ⟨b, cap, rfl, hc1, -, hbb, -⟩ := owns_pos O2.out (by omega)
    have HBB := Lib.hid hbb
    have HC := Lib.hid (fun j (hj : j < (wys L (kk most)).length) => part_in O2.out j hj)
    have EE := Lib.hid (fun j (hj : j < (wys L (kk most)).length) w' (h : Kept Nix w2 w') => (rceach_any _ L ((wys L (kk most)).getD j (0, false)).1 ((wys L (kk most)).getD j (0, false)).2 w' (HV.out.nix (nix_trans (nix_trans K0.out K2.out) h)) HL.out).mono (R' := fun e w'' => e = .returned (.int .i64 (wayN L (kk most) j : Int)) ∧ Kept Nix w2 w'') (fun e w'' (hh : _ ∧ _) => ⟨by rw [hh.1, way_each HN.out (kk_le most) hj], nix_trans h hh.2⟩))
    have BB := Lib.hid (bst_best HN.out (kk most))
    have HBE := Lib.hid (best_near HN.out (kk most)).2.2.2
    have N1 := Lib.hid hn1
    have HCAP := Lib.hid hc1
    clear hbb hn1 hc1
    generalize hn : (wys L (kk most)).length = n at *
    have HNN := Lib.hid hn
    clear hn
    go_wp2
    refine wp_loop (RBInv (.slice ao L.length ca) (.slice (some ⟨b, 0, none⟩) n cap) L (kk most) g4 w2) (fun a _ => n - (intOf (a.tmps.getD 10 undef)).toNat) ?_ ?_
    · exact ⟨rfl, rfl, rfl, rfl, rfl, 1, Nat.le_refl _, by rw [HNN.out]; exact N1.out.1, rfl, rfl, Kept.refl _ _⟩
    · rintro ⟨tm, df⟩ w3 ⟨rfl, hs, e0, e4, e8, i, hi1, hi2, e10, e9, hk⟩
      simp only at hs e0 e4 e8 e10 e9
      rw [HNN.out] at hi2
      obtain ⟨f, hf, hg⟩ := fr_open hs
      have g0 := hg _ _ e0
      have g4' := hg _ _ e4
      have g8 := hg _ _ e8
      have g10 := hg _ _ e10
      have g9 := hg _ _ e9
      simp only [List.range, List.range.loop, List.map] at hf
      rw [g0, g4', g8, g10, g9] at hf
      clear g0 g4' g8 g10 g9 hg hs e0 e4 e8 e10 e9
      subst hf
      have HK := Lib.hid hk
      clear hk
      by_cases hlt : i < n
      · have hbl := bst_le L (kk most) (i - 1)
        have C1 := Lib.hid (HC.out i hlt)
        have C2 := Lib.hid (HC.out (bst L (kk most) (i - 1)) (by omega))
        have EI := Lib.hid (EE.out i hlt)
        have EA := Lib.hid (EE.out (bst L (kk most) (i - 1)) (by omega))
        have HI := Lib.hid hlt
        have hdd : decide (i < n) = true := decide_eq_true hlt
        have q1 : (i : Int) < (n : Int) := by omega
        have q2 : (bst L (kk most) (i - 1) : Int) < (n : Int) := by omega
        have HW := Lib.hid (show wrap64 ((i : Int) + 1) = ((i + 1 : Nat) : Int) by have := N1.out; rw [w64_in _ (by omega)]; omega)
        have HB1 := Lib.hid (show bst L (kk most) (i + 1 - 1) = if wayN L (kk most) i < wayN L (kk most) (bst L (kk most) (i - 1)) then i else bst L (kk most) (i - 1) by
          obtain ⟨i', rfl⟩ : ∃ i', i = i' + 1 := ⟨i - 1, by omega⟩
          simp only [Nat.add_sub_cancel, bst])
        have HM := Lib.hid (show i + 1 ≤ n by omega)
        generalize (wys L (kk most)).getD i (0, false) = pi at *
        generalize (wys L (kk most)).getD (bst L (kk most) (i - 1)) (0, false) = pa at *
        obtain ⟨ki, ri⟩ := pi
        obtain ⟨ka, ra⟩ := pa
        clear hbl hi1 hi2 hlt HC EE BB
        generalize bst L (kk most) (i - 1) = at0 at *
        generalize wayN L (kk most) i = ni at *
        generalize wayN L (kk most) at0 = na at *
        simp only at C1 C2 EI EA
        obtain ⟨c1, c2⟩ := C1.out w3 HK.out
        obtain ⟨d1, d2⟩ := C2.out w3 HK.out
        go_upto_region 9 with fail
        have hlt2 : ∃ t, decide (ni < na) = t := ⟨_, rfl⟩
        obtain ⟨t, ht⟩ := hlt2
        go_region_held3 (fun w' => Kept Nix w2 w' ∧ w'.cell? ⟨b, i * 2, none⟩ = some (.int .i64 ki) ∧ w'.cell? ⟨b, i * 2 + 1, none⟩ = some (.bool ri) ∧ w'.cell? ⟨b, at0 * 2, none⟩ = some (.int .i64 ka) ∧ w'.cell? ⟨b, at0 * 2 + 1, none⟩ = some (.bool ra))
          (first | assumption | exact ⟨HK.out.drew, c1, c2, d1, d2⟩ | exact ⟨HKI.out, (C1.out _ HKI.out).1, (C1.out _ HKI.out).2, (C2.out _ HKI.out).1, (C2.out _ HKI.out).2⟩ | exact ⟨HKA.out, (C1.out _ HKA.out).1, (C1.out _ HKA.out).2, (C2.out _ HKA.out).1, (C2.out _ HKA.out).2⟩)
          (first
            | (go_at_call 37; refine (EI.out _ (And.left (by assumption))).mono ?_; rintro e wx ⟨rfl, kx⟩; have HKI := Lib.hid kx; clear kx EI)
            | (go_at_call 37; refine (EA.out _ (And.left (by assumption))).mono ?_; rintro e wy ⟨rfl, ky⟩; have HKA := Lib.hid ky; clear ky EA))
        have HTT := Lib.hid ht
        have HKA2 := Lib.hid HKA.out
        clear c1 c2 d1 d2 ht hdd q1 q2
        cases t with
        | true =>
          go_wp2
          rw [HW.out]
          refine ⟨⟨rfl, rfl, rfl, rfl, rfl, i + 1, by omega, by rw [HNN.out]; exact HM.out, rfl, ?_, HKA2.out⟩, nearer HI.out rfl⟩
          rw [HB1.out, if_pos (of_decide_eq_true HTT.out)]
          rfl
        | false =>
          go_wp2
          rw [HW.out]
          refine ⟨⟨rfl, rfl, rfl, rfl, rfl, i + 1, by omega, by rw [HNN.out]; exact HM.out, rfl, ?_, HKA2.out⟩, nearer HI.out rfl⟩
          rw [HB1.out, if_neg (of_decide_eq_false HTT.out)]
          rfl
      · have hie : i = n := by omega
        subst hie
        have hdd : decide (i < i) = false := decide_eq_false hlt
        have hbl := bst_le L (kk most) (i - 1)
        have C2 := Lib.hid (HC.out (bst L (kk most) (i - 1)) (by omega))
        have EA := Lib.hid (EE.out (bst L (kk most) (i - 1)) (by omega))
        have q2 : (bst L (kk most) (i - 1) : Int) < (i : Int) := by omega
        obtain ⟨b1, b2⟩ := BB.out
        rw [b1] at C2 EA
        rw [b2] at EA
        have KW := Lib.hid (nix_trans K0.out K2.out)
        have H3 := Lib.hid (K2.out.heap H4.out id)
        clear hbl hi1 hi2 hlt HC EE BB b1 b2
        have HBV := Lib.hid (show bestV L (kk most) = .tuple #[.agg #[.int .i64 (bestK L (kk most)), .bool (bestR L (kk most))], .int .i64 (bestN L (kk most)), .int .i64 0] by rw [bestV, HBE.out])
        generalize bst L (kk most) (i - 1) = at0 at *
        simp only at C2 EA
        generalize bestK L (kk most) = pk at *
        generalize bestR L (kk most) = pr at *
        generalize bestN L (kk most) = pn at *
        obtain ⟨d1, d2⟩ := C2.out w3 HK.out
        go_upto_region 11 with fail
        go_region_law
          (first
            | (go_simp; go_at_call 37; refine (EA.out _ HK.out.drew).mono ?_; rintro e w5 ⟨rfl, k5⟩; have K5 := Lib.hid k5; obtain ⟨f1, f2⟩ := C2.out w5 k5; have h5 := k5.heap H3.out id; have y0 := (cell_of (i := 0) h5).trans rfl; have y1 := (cell_of (i := 1) h5).trans rfl; have z0 := frozen_of (i := 0) h5; have z1 := frozen_of (i := 1) h5; have H5 := Lib.hid h5; clear k5 EA h5))
        all_goals
          clear d1 d2 f1 f2 y0 y1 z0 z1
          go_wp2
          exact bodyPost_ret (results_part rfl _ _ g4 #[.int .i64 pk, .bool pr] pn 0 rfl (heap_set (heap_set H5.out)) rfl rfl rfl) rfl ⟨by rw [HBV.out], ((nix_trans KW.out K5.out).setCell (.inr (Nat.le_of_eq HG4.out)) _).setCell (.inr (Nat.le_of_eq HG4.out)) _⟩

end Go.Proofs.Ytliggpidkdiinaa

namespace Go.Proofs.Ytliggpidkdiinaa
open Go.RowKit Bx

theorem owns_type {w : World} {base : Nat} {e : TypeId} {v : Value} {n : Nat} {xs : List Value} (h : w.ownsRow base e 1 v n xs) {k : Nat} (hk : v.ownBlock = some k) : ∃ cur, w.heap[k]? = some (.cells cur e (0, 0)) := by
  rcases h.2 with ⟨rfl, _⟩ | ⟨g, cap, cur, rfl, _, hg, _⟩
  · cases hk
  · cases hk
    exact ⟨cur, hg⟩

def Rack (base : Nat) (w : World) (v : Value) (us : List Value) (L : List (List Int)) : Prop :=
  w.ownsRow base 22 1 v us.length us ∧ us.length = L.length ∧ ∀ i, i < L.length → ∃ u, us[i]? = some u ∧ w.ownsRow base 3 1 u (L.getD i []).length (ivs (L.getD i []))

theorem Rack.chs {base : Nat} {w : World} {v : Value} {us : List Value} {L : List (List Int)} (h : Rack base w v us L) : Chs w v L := by
  obtain ⟨h1, h2, h3⟩ := h
  exact ⟨us, sl_of_owns h1, h2, fun i hi => by obtain ⟨u, hu, ho⟩ := h3 i hi; exact ⟨u, hu, sl_of_owns ho⟩⟩

theorem rack_nil (base : Nat) (w : World) : Rack base w (.slice none 0 0) [] [] := ⟨World.ownsRow_nil _ _ _ _, rfl, fun i hi => by simp at hi⟩

/-- What is no part of it may turn. -/
theorem Rack.other {base : Nat} {w w' : World} {v : Value} {us : List Value} {L : List (List Int)} (h : Rack base w v us L) {S : Nat → Prop} (hk : Kept S w w') (hS : ∀ k cur t, S k → w.heap[k]? = some (.cells cur t (0, 0)) → t ≠ 22 ∧ t ≠ 3) : Rack base w' v us L := by
  obtain ⟨h1, h2, h3⟩ := h
  refine ⟨hk.owns h1 (fun k hb hs => ?_), h2, fun i hi => ?_⟩
  · obtain ⟨cur, hg⟩ := owns_type h1 hb
    exact (hS k _ _ hs hg).1 rfl
  · obtain ⟨u, hu, ho⟩ := h3 i hi
    refine ⟨u, hu, hk.owns ho (fun k hb hs => ?_)⟩
    obtain ⟨cur, hg⟩ := owns_type ho hb
    exact (hS k _ _ hs hg).2 rfl

theorem Rack.kept {base : Nat} {w w' : World} {v : Value} {us : List Value} {L : List (List Int)} (h : Rack base w v us L) (hk : Kept Nix w w') : Rack base w' v us L := h.other hk (fun _ _ _ h _ => absurd h id)

theorem Rack.push {base : Nat} {w w2 w6 : World} {v v6 u : Value} {us : List Value} {L : List (List Int)} {zs : List Int} (h : Rack base w v us L) (k2 : Kept Nix w w2) (hu : w2.ownsRow base 3 1 u zs.length (ivs zs))
    (ho : w6.ownsRow base 22 1 v6 (us.length + 1) (us ++ [u])) (hg : w2.grownBy w6 v.ownBlock) : Rack base w6 v6 (us ++ [u]) (L ++ [zs]) := by
  have h' := h.kept k2
  obtain ⟨h1, h2, h3⟩ := h'
  have keep : ∀ {x : Value} {n : Nat} {xs : List Value}, w2.ownsRow base 3 1 x n xs → w6.ownsRow base 3 1 x n xs := by
    intro x n xs hx
    have hk : Kept (fun k => v.ownBlock = some k) w2 w6 := ⟨hg.os, hg.tape, hg.output, hg.size, fun k hk hn => hg.block k hk (fun e => hn e.symm)⟩
    refine hk.owns hx (fun k hb hs => ?_)
    obtain ⟨c1, g1⟩ := owns_type hx hb
    obtain ⟨c2, g2⟩ := owns_type h1 hs
    rw [g1] at g2
    simp at g2
  refine ⟨by simpa using ho, by simp [h2], fun i hi => ?_⟩
  by_cases hlt : i < L.length
  · obtain ⟨x, hx, hxo⟩ := h3 i hlt
    have e2 : (L ++ [zs]).getD i [] = L.getD i [] := by simp [List.getD, List.getElem?_append_left hlt]
    rw [e2]
    exact ⟨x, by rw [List.getElem?_append_left (by omega)]; exact hx, keep hxo⟩
  · have hie : i = L.length := by simp at hi; omega
    subst hie
    have e2 : (L ++ [zs]).getD L.length [] = zs := by simp [List.getD]
    rw [e2]
    exact ⟨u, by rw [← h2]; simp, keep hu⟩

end Go.Proofs.Ytliggpidkdiinaa
