/- Package cost: Best. -/
import Derived.Test.YtliggpidkdiinaaCostBestK
namespace Go.Proofs.Ytliggpidkdiinaa
open Go.RowKit Bx

/-- A result of three: a part that lives in memory, and two numbers. -/
theorem results_part {fn : Func} {p u v : Tmp} (h : fn.results = #[.cell p 39, .tmp u, .tmp v]) (tmps : Array Value) (w : World) (g : Nat) (cs : Array Value) (x y : Int)
    (hp : tmps.getD p undef = .pointer (some ⟨g, 0, none⟩)) (hg : w.heap[g]? = some (.cells cs 39 (0, 0))) (hc : cs.size = 2) (hu : tmps.getD u undef = .int .i64 x) (hv : tmps.getD v undef = .int .i64 y) :
    (results fn tmps).run Try.prog w = .ok (.tuple #[.agg cs, .int .i64 x, .int .i64 y]) w := by
  have h1 := run_loadVar_row (P := Try.prog) w g 39 39 cs (0, 0) _ hg Try.underlying39 rfl (by rw [hc]; exact size_part)
  simp only [Array.getD_eq_getD_getElem?] at hp hu hv
  simp only [results, h]
  simp [hp, asAddr, h1, hu, hv, Result.andThen]

theorem one_part (k : Int) (r : Bool) : (#[.int .i64 k, .bool r] : Array Value).all (·.oneCell') = true := by simp [Value.oneCell']

/-- What Best answers. -/
def bestV (L : List Int) (m : Nat) : Value := .tuple #[.agg #[.int .i64 (bestK L m), .bool (bestR L m)], .int .i64 (bestN L m), .int .i64 (bestE L)]

theorem bestV_far {L : List Int} (h : nrs L = false) (m : Nat) : bestV L m = .tuple #[.agg #[.int .i64 0, .bool false], .int .i64 0, .int .i64 6] := by
  obtain ⟨h1, h2, h3, h4⟩ := best_far h m
  rw [bestV, h1, h2, h3, h4]

theorem bestV_raw {L : List Int} (h : nrs L = true) {m : Nat} (hr : cbR L m = true) : bestV L m = .tuple #[.agg #[.int .i64 (cw L : Int), .bool true], .int .i64 ((5 + L.length * cw L : Nat) : Int), .int .i64 0] := by
  obtain ⟨h1, h2, h3, h4⟩ := best_near h m
  rw [bestV, h1, h2, h3, h4, cbK, cbN, hr, if_pos rfl, if_pos rfl]

theorem bestV_k {L : List Int} (h : nrs L = true) {m : Nat} (hr : cbR L m = false) : bestV L m = .tuple #[.agg #[.int .i64 (bk L m : Int), .bool false], .int .i64 (sN L (bk L m) : Int), .int .i64 0] := by
  obtain ⟨h1, h2, h3, h4⟩ := best_near h m
  rw [bestV, h1, h2, h3, h4, cbK, cbN, hr, if_neg (by simp), if_neg (by simp)]

theorem kk_min (most M : Int) (h : (if 30 < most then (30 : Int) else most) = M) : M ≤ 30 ∧ kk M = kk most := by
  unfold kk
  split at h <;> omega

theorem part_start (w : World) : ∀ w', w' = w.alloc (.cells #[.int .i64 0, .bool false] 39) → w'.heap[w.heap.size]? = some (.cells #[.int .i64 0, .bool false] 39 (0, 0)) ∧ Kept Nix w w' ∧ w.heap.size < w'.heap.size := by
  rintro w' rfl
  exact ⟨heap_alloc_new _ _, (Kept.refl _ w).alloc _, by simp⟩

theorem part_second {w : World} (w2 : World) (cs : Array Value) (t : TypeId) (b : Int) (h4 : w2.heap[w.heap.size]? = some (.cells cs t (0, 0))) (hsz : w.heap.size < w2.heap.size) (k0 : Kept Nix w w2) :
    ∀ w3, w3 = w2.alloc (.cells #[.int .i64 b, .bool false] 39) → w3.heap[w2.heap.size]? = some (.cells #[.int .i64 b, .bool false] 39 (0, 0)) ∧ w3.heap[w.heap.size]? = some (.cells cs t (0, 0)) ∧ (Kept Nix w w3 ∧ w.heap.size < w2.heap.size) ∧ w.heap.size ≠ w2.heap.size ∧ True := by
  rintro w3 rfl
  exact ⟨heap_alloc_new _ _, ((Kept.refl Nix w2).alloc _).heap h4 id, ⟨k0.alloc _, hsz⟩, by omega, trivial⟩

set_option maxRecDepth 10000 in
set_option maxHeartbeats 2000000 in
theorem cbest_any (v : Value) (L : List Int) (most : Int) (w : World) (hv : Sl w v (ivs L)) (hl : L.length ≤ 1048576) :
    Calls Try.prog 15 #[v, .int .i64 most] w fun e w' => e = .returned (bestV L (kk most)) ∧ Kept Nix w w' := by
  obtain ⟨ao, ca, rfl, -⟩ := hv.ints
  obtain ⟨h4, k0, hsz⟩ := part_start w _ rfl
  have H4 := Lib.hid h4
  have K0 := Lib.hid k0
  have HSZ := Lib.hid hsz
  have WD := Lib.hid (cwidth_any _ L _ (hv.nix k0))
  cases hn : nrs L with
  | false =>
    have e1 : cwid L = -1 := by unfold cwid; rw [hn]; rfl
    rw [e1] at WD
    rw [bestV_far hn]
    clear hv hl h4 k0 hsz hn e1
    go_enter Try.func15, Try.ntmps15
    go_upto_region 1 with fail
    generalize w.alloc (.cells #[.int .i64 0, .bool false] 39) = w1 at *
    go_wp2_with (first
      | (go_at_call 16; refine WD.out.mono ?_; rintro e w2 ⟨rfl, rfl⟩; clear WD)
      | (refine wpList_store_row rfl 39 _ _ rfl _ _ rfl rfl 39 _ H4.out size_part rfl (one_part _ _) ?_))
    exact bodyPost_ret (results_part rfl _ _ w.heap.size _ 0 6 rfl (heap_row _ H4.out) rfl rfl rfl) rfl ⟨rfl, K0.out.setRow (.inr (Nat.le_refl _)) _⟩
  | true =>
    have e1 : cwid L = (cw L : Int) := by unfold cwid; rw [hn]; rfl
    rw [e1] at WD
    obtain ⟨M, hM⟩ : ∃ M, (if 30 < most then (30 : Int) else most) = M := ⟨_, rfl⟩
    obtain ⟨m1, m2⟩ := kk_min most M hM
    have BK := Lib.hid (bestk_any _ L M _ (hv.nix k0) hl hn m1)
    rw [m2] at BK
    have hcw := cw_near hn
    have RB := Lib.hid (fun w => raw_any L.length (cw L) w hl (by omega) (by omega))
    rw [show 5 + (L.length : Int) * (cw L : Int) = ((5 + L.length * cw L : Nat) : Int) by simp] at RB
    have t0 : decide (((cw L : Nat) : Int) < 0) = false := decide_eq_false (by omega)
    cases hr : cbR L (kk most) with
    | true =>
      have hr2 := hr
      simp only [cbR, Bool.and_eq_true, decide_eq_true_eq] at hr2
      have t1 : decide (((cw L : Nat) : Int) ≤ 31) = true := decide_eq_true (by omega)
      have t2 : decide (5 + L.length * cw L < sN L (bk L (kk most))) = true := decide_eq_true hr2.2
      rw [bestV_raw hn hr]
      clear hv hl h4 k0 hsz hn e1 m1 m2 hcw hr hr2
      generalize 5 + L.length * cw L = R at *
      generalize sN L (bk L (kk most)) = S at *
      generalize bk L (kk most) = b at *
      generalize cw L = c at *
      generalize L.length = l at *
      go_enter Try.func15, Try.ntmps15
      go_upto_region 1 with fail
      generalize w.alloc (.cells #[.int .i64 0, .bool false] 39) = w1 at *
      go_upto_region 5 with (first
        | (go_at_call 16; refine WD.out.mono ?_; rintro e w2 ⟨rfl, rfl⟩; clear WD)
        | (go_at_call 27; refine BK.out.mono ?_; rintro e w2 ⟨rfl, rfl⟩; clear BK))
      obtain ⟨p1, p2, p3, p4, p5⟩ := part_second w2 _ _ (b : Int) H4.out HSZ.out K0.out _ rfl
      have P1 := Lib.hid p1
      have P2 := Lib.hid p2
      have P3 := Lib.hid p3
      have P5 := Lib.hid (fun cs => heap_row_other (w := w2.alloc (.cells #[.int .i64 (b : Int), .bool false] 39)) cs p4)
      clear p1 p2 p3 p4 p5 hM t0 H4 HSZ K0
      go_upto_region 6 with fail
      generalize w2.alloc (.cells #[.int .i64 (b : Int), .bool false] 39) = w3 at *
      generalize w2.heap.size = g2 at *
      go_wp2_with (first
        | (go_at_call 28; refine (RB.out _).mono ?_; rintro e w4 ⟨rfl, rfl⟩; clear RB)
        | (refine wpList_store_row rfl 39 _ _ rfl _ _ rfl rfl 39 _ P1.out size_part rfl (one_part _ _) ?_)
        | (refine wpList_load_row rfl 39 _ rfl g2 rfl 39 _ (0, 0) _ (heap_row _ P1.out) Try.underlying39 rfl size_part ?_)
        | (refine wpList_store_row rfl 39 _ _ rfl _ _ rfl rfl 39 _ ((P5.out _).trans P2.out) size_part rfl (one_part _ _) ?_))
      exact bodyPost_ret (results_part rfl _ _ w.heap.size _ (R : Int) 0 rfl (heap_row _ ((P5.out _).trans P2.out)) rfl rfl rfl) rfl ⟨rfl, (P3.out.1.setRow (.inr (Nat.le_of_lt P3.out.2)) _).setRow (.inr (Nat.le_refl _)) _⟩
    | false =>
      have hr2 := hr
      simp only [cbR, Bool.and_eq_false_iff, decide_eq_false_iff_not] at hr2
      have t2 : decide (((cw L : Nat) : Int) ≤ 31) = false ∨ (decide (((cw L : Nat) : Int) ≤ 31) = true ∧ decide (5 + L.length * cw L < sN L (bk L (kk most))) = false) := by
        simp only [decide_eq_true_eq, decide_eq_false_iff_not]
        omega
      rw [bestV_k hn hr]
      clear hv hl h4 k0 hsz hn e1 m1 m2 hcw hr hr2
      generalize 5 + L.length * cw L = R at *
      generalize sN L (bk L (kk most)) = S at *
      generalize bk L (kk most) = b at *
      generalize cw L = c at *
      generalize L.length = l at *
      go_enter Try.func15, Try.ntmps15
      go_upto_region 1 with fail
      generalize w.alloc (.cells #[.int .i64 0, .bool false] 39) = w1 at *
      go_upto_region 5 with (first
        | (go_at_call 16; refine WD.out.mono ?_; rintro e w2 ⟨rfl, rfl⟩; clear WD)
        | (go_at_call 27; refine BK.out.mono ?_; rintro e w2 ⟨rfl, rfl⟩; clear BK))
      obtain ⟨p1, p2, p3, p4, p5⟩ := part_second w2 _ _ (b : Int) H4.out HSZ.out K0.out _ rfl
      have P1 := Lib.hid p1
      have P2 := Lib.hid p2
      have P3 := Lib.hid p3
      have P5 := Lib.hid (fun cs => heap_row_other (w := w2.alloc (.cells #[.int .i64 (b : Int), .bool false] 39)) cs p4)
      clear p1 p2 p3 p4 p5 hM t0 H4 HSZ K0
      go_upto_region 6 with fail
      generalize w2.alloc (.cells #[.int .i64 (b : Int), .bool false] 39) = w3 at *
      generalize w2.heap.size = g2 at *
      rcases t2 with t1 | ⟨t1, t2⟩
      all_goals
        go_wp2_with (first
          | (go_at_call 28; refine (RB.out _).mono ?_; rintro e w4 ⟨rfl, rfl⟩; clear RB)
          | (refine wpList_load_row rfl 39 _ rfl g2 rfl 39 _ (0, 0) _ P1.out Try.underlying39 rfl size_part ?_)
          | (refine wpList_store_row rfl 39 _ _ rfl _ _ rfl rfl 39 _ P2.out size_part rfl (one_part _ _) ?_))
        exact bodyPost_ret (results_part rfl _ _ w.heap.size _ (S : Int) 0 rfl (heap_row _ P2.out) rfl rfl rfl) rfl ⟨rfl, P3.out.1.setRow (.inr (Nat.le_refl _)) _⟩

end Go.Proofs.Ytliggpidkdiinaa
