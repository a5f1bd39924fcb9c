/- The walk of CostLeast. -/
import Derived.Test.YtpbfmbmdagpmpaaAwake13
import Derived.Test.YtpbfmbmdagpmpaaArgs
namespace Go.Proofs.Ytpbfmbmdagpmpaa
open Go.RowKit Bx

theorem ceach_best {L : List Int} (hn : nrs L = true) (m : Nat) (hm : m ≤ 30) : ceach L (bestK L m) (bestR L m) = bestN L m := by
  obtain ⟨h1, h2, h3, -⟩ := best_near hn m
  rw [h1, h2, h3]
  unfold cbK cbN
  cases hr : cbR L m with
  | true =>
    rw [if_pos rfl, if_pos rfl]
    simp only [cbR, Bool.and_eq_true, decide_eq_true_eq] at hr
    unfold ceach
    rw [if_pos rfl, if_pos ⟨hn, by omega, by omega⟩]
    simp [Int.mul_comm]
  | false =>
    rw [if_neg (by simp), if_neg (by simp)]
    have := bk_le L m
    have e : kk ((bk L m : Nat) : Int) = bk L m := by unfold kk; omega
    unfold ceach cbits
    rw [if_neg (by simp), if_pos hn, e]

/-- No other way has fewer bits, and none ahead of it as few. -/
theorem least_k {L : List Int} (hn : nrs L = true) {m j : Nat} (hm : m ≤ 30) (hj : j ≤ m) : 0 ≤ ceach L (j : Int) false ∧ (bestN L m < ceach L (j : Int) false ∨ (ceach L (j : Int) false = bestN L m ∧ bestR L m = false ∧ bestK L m ≤ (j : Int))) := by
  obtain ⟨h1, h2, h3, -⟩ := best_near hn m
  have e : ceach L (j : Int) false = (sN L j : Int) := by
    unfold ceach cbits
    rw [if_neg (by simp), if_pos hn, show kk ((j : Nat) : Int) = j by unfold kk; omega]
  rw [e, h1, h2, h3]
  refine ⟨by omega, ?_⟩
  have hb := bk_least L m j hj
  have hf := bk_first L m j
  unfold cbN cbK
  cases hr : cbR L m with
  | true =>
    simp only [cbR, Bool.and_eq_true, decide_eq_true_eq] at hr
    rw [if_pos rfl]
    omega
  | false =>
    rw [if_neg (by simp), if_neg (by simp)]
    by_cases h : j < bk L m
    · have := hf h; omega
    · simp only [true_and]; omega

theorem least_raw {L : List Int} (hn : nrs L = true) (m : Nat) : (ceach L (cwid L) true < 0 ∧ 31 < cwid L) ∨ (0 ≤ ceach L (cwid L) true ∧ (bestN L m < ceach L (cwid L) true ∨ ceach L (cwid L) true = bestN L m)) := by
  obtain ⟨h1, h2, h3, -⟩ := best_near hn m
  have e : cwid L = (cw L : Int) := by unfold cwid; rw [if_pos hn]
  rw [e, h3]
  by_cases h : cw L ≤ 31
  · have e2 : ceach L (cw L : Int) true = ((5 + L.length * cw L : Nat) : Int) := by
      unfold ceach
      rw [if_pos rfl, if_pos ⟨hn, by omega, by omega⟩]
      simp [Int.mul_comm]
    have := cbN_raw L m h
    rw [e2]
    omega
  · left
    unfold ceach
    rw [if_pos rfl, if_neg (by omega)]
    omega

theorem least_nums {a c : Int} (ha : (Lit.int .u8 a).wf = true) (hc : (Lit.int .u8 c).wf = true) : ∃ m m1 j : Nat, m ≤ 30 ∧ j ≤ m ∧ a.tmod 31 = (m : Int) ∧ wrap64 (m : Int) = (m : Int) ∧ wrap64 c = c ∧ wrap64 ((m : Int) + 1) = (m1 : Int) ∧ ¬ m1 = 0 ∧ c.tmod (m1 : Int) = (j : Int) := by
  obtain ⟨p, rfl, hp⟩ := nat_u8 ha
  obtain ⟨q, rfl, hq⟩ := nat_u8 hc
  refine ⟨p % 31, p % 31 + 1, q % (p % 31 + 1), by omega, by have := Nat.mod_lt q (show 0 < p % 31 + 1 by omega); omega, ?_, by rw [w64_in _ (by omega)], by rw [w64_in _ (by omega)], by rw [w64_in _ (by omega)]; omega, by omega, ?_⟩
  · rw [Int.tmod_eq_emod_of_nonneg (by omega)]; omega
  · rw [Int.tmod_eq_emod_of_nonneg (by omega)]; omega

set_option maxRecDepth 10000 in
set_option maxHeartbeats 4000000 in
theorem walk_CostLeast (w : World) (v : Value) (x : List Int) (hx : Sl w v (x.map (Value.int .i64))) (_hw : ∀ n ∈ x, (Lit.int .i64 n).wf = true)
    (most : Int) (ho : (Lit.int .u8 most).wf = true) (k : Int) (hk : (Lit.int .u8 k).wf = true) (raw : Bool) :
    Calls Try.prog 5 #[v, .int .u8 most, .int .u8 k, .bool raw] w fun e w' => e = .returned (.bool true) ∧ Kept Nix w w' := by
  obtain ⟨m, m1, j, r1, r2, r3, r4, r5, r6, r7, r8⟩ := least_nums ho hk
  obtain ⟨xo, xc, rfl, -⟩ := hx.ints
  have HX := Lib.hid (show Sl w (.slice xo x.length xc) (ivs x) from hx)
  have HA := Lib.hid (awake_any w)
  have R1 := Lib.hid r1
  have R2 := Lib.hid r2
  clear hx _hw ho hk r1 r2
  go_enter Try.func5, Try.ntmps5
  go_upto_region 2 with (go_at_call 9; refine HA.out.mono ?_; rintro e w1 ⟨rfl, k1⟩; have K1 := Lib.hid k1; clear k1)
  clear HA
  have HN := Lib.hid (rnears_any _ x w1 (HX.out.nix K1.out))
  go_upto_region 3 with (go_at_call 18; refine HN.out.mono ?_; rintro e w2 ⟨rfl, rfl⟩; clear HN)
  by_cases hlen : 100 < x.length
  · have hd : decide ((100 : Int) < (x.length : Int)) = true := decide_eq_true (by omega)
    clear hlen
    go_wp2
    go_ret
    exact ⟨rfl, K1.out⟩
  have hd : decide ((100 : Int) < (x.length : Int)) = false := decide_eq_false (by omega)
  have HL := Lib.hid (show x.length ≤ 1048576 by omega)
  clear hlen
  cases hn : nrs x with
  | false =>
    go_wp2
    go_ret
    exact ⟨rfl, K1.out⟩
  | true =>
    have HNR := Lib.hid hn
    clear hn
    have B1 := Lib.hid (cbest_any _ x (m : Int) w2 (HX.out.nix K1.out) HL.out)
    rw [show kk ((m : Nat) : Int) = m by have := R1.out; unfold kk; omega] at B1
    unfold bestV at B1
    have HE := Lib.hid (ceach_best HNR.out m R1.out)
    have hbe : bestE x = 0 := (best_near HNR.out m).2.2.2
    rw [hbe] at B1
    have E1 := Lib.hid (fun w' (h : Kept Nix w2 w') => ceach_any _ x (bestK x m) (bestR x m) w' (HX.out.nix (nix_trans K1.out h)) HL.out)
    rw [HE.out] at E1
    have LK := Lib.hid (least_k HNR.out R1.out R2.out)
    have LR := Lib.hid (least_raw HNR.out m)
    have E2 := Lib.hid (fun k r w' (h : Kept Nix w2 w') => ceach_any _ x k r w' (HX.out.nix (nix_trans K1.out h)) HL.out)
    have W2 := Lib.hid (fun w' (h : Kept Nix w2 w') => cwidth_any _ x w' (HX.out.nix (nix_trans K1.out h)))
    clear hbe HE
    generalize bestK x m = pk at *
    generalize bestR x m = pr at *
    generalize bestN x m = n at *
    go_upto_region 7 with (go_at_call 16; refine B1.out.mono ?_; rintro e w3 ⟨rfl, k3⟩; have K3 := Lib.hid k3; clear k3 B1)
    have C1 := Lib.hid (part_cells w3 pk pr 25)
    have K4 := Lib.hid (K3.out.alloc (.cells #[.int .i64 pk, .bool pr] 25))
    generalize w3.alloc (.cells #[.int .i64 pk, .bool pr] 25) = w4 at *
    generalize w3.heap.size = g1 at *
    have hnn : (n != n) = false := by simp
    obtain ⟨c1, c2, -⟩ := C1.out _ (Kept.refl _ _)
    have E3 := Lib.hid (E1.out w4 K4.out)
    go_upto_region 9 with (go_at_call 14; refine E3.out.mono ?_; rintro e w5 ⟨rfl, k5⟩; have K5 := Lib.hid k5; clear k5 E3)
    clear c1 c2 hnn E1
    have D1 := Lib.hid (part_cells w5 (j : Int) false 25)
    have K6 := Lib.hid (K5.out.alloc (.cells #[.int .i64 (j : Int), .bool false] 25))
    have HG := Lib.hid (K5.out.size)
    go_upto_region 10 with fail
    generalize w5.alloc (.cells #[.int .i64 (j : Int), .bool false] 25) = w6 at *
    generalize w5.heap.size = g2 at *
    have KW := Lib.hid (nix_trans K4.out K6.out)
    clear r3 r4 r5 r6 r7 r8
    cases raw with
    | false =>
      obtain ⟨d1, d2, -⟩ := D1.out _ (Kept.refl _ _)
      have E4 := Lib.hid (E2.out (j : Int) false w6 KW.out)
      obtain ⟨l1, l2⟩ := LK.out
      generalize ceach x (j : Int) false = X at *
      have t0 : decide (X < 0) = false := decide_eq_false (by omega)
      go_upto_region 13 with (go_at_call 14; refine E4.out.mono ?_; rintro e w7 ⟨rfl, k7⟩; have K7 := Lib.hid k7; clear k7 E4)
      clear d1 d2
      obtain ⟨d1, d2, -⟩ := D1.out _ K7.out
      obtain ⟨c1, c2, -⟩ := C1.out _ (nix_trans K6.out K7.out)
      have KF := Lib.hid (nix_trans K1.out (nix_trans KW.out K7.out))
      rcases l2 with l2 | ⟨l2, l3, l4⟩
      · have t1 : decide (n < X) = true := decide_eq_true l2
        clear l1 l2
        cases pr <;> cases hjk : decide ((j : Int) < pk)
        all_goals
          go_wp2
          go_ret
          exact ⟨rfl, KF.out⟩
      · have t1 : decide (n < X) = false := decide_eq_false (by omega)
        have t2 : (X == n) = true := beq_iff_eq.2 l2
        have t3 : decide ((j : Int) < pk) = false := decide_eq_false (by omega)
        subst l3
        clear l1 l2 l4
        go_wp2
        go_ret
        exact ⟨rfl, KF.out⟩
    | true =>
      have W3 := Lib.hid (W2.out w6 KW.out)
      have PH := Lib.hid (D1.out _ (Kept.refl _ _)).2.2
      obtain lr | ⟨lr1, lr2⟩ := LR.out
      all_goals
        generalize cwid x = c at *
        have K7 := Lib.hid (K6.out.setRow (.inr HG.out) #[.int .i64 c, .bool true])
        have H7 := Lib.hid (heap_row #[.int .i64 c, .bool true] PH.out)
        have E4 := Lib.hid (E2.out c true _ (nix_trans K4.out K7.out))
        generalize ceach x c true = X at *
        go_upto_region 12 with (first
          | (go_at_call 12; refine W3.out.mono ?_; rintro e w8 ⟨rfl, rfl⟩; clear W3)
          | (refine wpList_store_row rfl 25 _ _ rfl _ _ rfl rfl 25 _ PH.out size_part rfl (one_part _ _) ?_))
        clear D1 K6 W2 E2
        go_upto_region 13 with (first
          | (refine wpList_load_row rfl 25 _ rfl g2 rfl 25 _ (0, 0) _ H7.out Try.underlying25 rfl size_part ?_)
          | (go_at_call 14; refine E4.out.mono ?_; rintro e w9 ⟨rfl, k9⟩; have K9 := Lib.hid k9; clear k9 E4))
        have H9 := Lib.hid (K9.out.heap H7.out id)
        obtain ⟨c1, c2, -⟩ := C1.out _ (nix_trans K7.out K9.out)
        have d1 := (cell_of (i := 0) H9.out).trans rfl
        have d2 := (cell_of (i := 1) H9.out).trans rfl
        have KF := Lib.hid (nix_trans K1.out (nix_trans K4.out (nix_trans K7.out K9.out)))
        clear K7 K9 H7 H9 C1
      · have t0 : decide (X < 0) = true := decide_eq_true lr.1
        have t1 : decide (31 < c) = true := decide_eq_true lr.2
        clear lr
        go_wp2
        go_ret
        exact ⟨rfl, KF.out⟩
      · have t0 : decide (X < 0) = false := decide_eq_false (by omega)
        rcases lr2 with l2 | l2
        · have t1 : decide (n < X) = true := decide_eq_true l2
          clear lr1 l2
          cases pr
          all_goals
            go_wp2
            go_ret
            exact ⟨rfl, KF.out⟩
        · have t1 : decide (n < X) = false := decide_eq_false (by omega)
          have t2 : (X == n) = true := beq_iff_eq.2 l2
          clear lr1 l2
          cases pr
          all_goals
            go_wp2
            go_ret
            exact ⟨rfl, KF.out⟩

end Go.Proofs.Ytpbfmbmdagpmpaa
