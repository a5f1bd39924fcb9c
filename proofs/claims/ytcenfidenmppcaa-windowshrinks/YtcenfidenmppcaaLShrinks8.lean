/- The walk of WindowShrinks. -/
import Derived.Test.YtcenfidenmppcaaLMiddle8
namespace Go.Proofs.Ytcenfidenmppcaa
open Go.RowKit Bx

theorem shrink_pos (x w : Int) (h : 0 ≤ x) (h1 : 1 ≤ w) (h2 : w ≤ 32768) : 0 ≤ x * w / 32768 ∧ x * w / 32768 ≤ x := by
  have a := Int.mul_nonneg h (show 0 ≤ w by omega)
  have b := Int.mul_le_mul_of_nonneg_left h2 h
  generalize x * w = p at *
  omega

theorem shrink_neg (x w : Int) (h : x < 0) (h1 : 1 ≤ w) (h2 : w ≤ 32768) : x * w / 32768 < 0 ∧ x ≤ x * w / 32768 := by
  have a := Int.mul_le_mul_of_nonneg_left h2 (show 0 ≤ -x by omega)
  have b := Int.mul_le_mul_of_nonneg_left h1 (show 0 ≤ -x by omega)
  rw [Int.neg_mul, Int.neg_mul] at a b
  generalize x * w = p at *
  omega

def ShrInv (vx vy : Value) (shape : Int) (n : Nat) (w : World) (a : Act) (w' : World) : Prop :=
  a.defers = [] ∧ a.tmps.size = 122 ∧ a.tmps[0]? = some vx ∧ a.tmps[1]? = some (.int .u8 shape) ∧ a.tmps[5]? = some (.bool true) ∧ a.tmps[9]? = some vy ∧
  ∃ i : Nat, i ≤ n ∧ a.tmps[11]? = some (.int .i64 (i : Int)) ∧ ∃ q, w' = w.drewN q

theorem wl_bd0 (s : Int) (m : Nat) (hm : m ≤ 65535) : ∀ n ∈ wl s m, 0 ≤ n ∧ n ≤ 32768 := fun n hn => by
  have := wl_bd s m hm n hn
  omega

theorem shr_nums (i n : Nat) (h : i < n) (hn : n ≤ 100) : wrap64 ((i : Int) + 1) = ((i + 1 : Nat) : Int) ∧ (i : Int) < (n : Int) ∧ decide ((i : Int) < (n : Int)) = true ∧ decide (i < n) = true := by
  refine ⟨by unfold wrap64; omega, by omega, decide_eq_true (by omega), decide_eq_true h⟩

theorem shr_at (x : List Int) (s : Int) (n i : Nat) (hx : x.length = n) (hn : n ≤ 100) (hi : i < n) (hs : 0 ≤ s ∧ s ≤ 2) : ∃ z y : Int, x.getD i 0 = z ∧ (apL x (wl s n)).getD i 0 = y ∧ (0 ≤ z → 0 ≤ y ∧ y ≤ z) ∧ (z < 0 → y < 0 ∧ z ≤ y) ∧ (s = 0 → y = z) := by
  have h := apL_get x (wl s n) i (by omega) (by rw [wl_length]; exact hi)
  rw [wl_get s n i hi] at h
  have h1 := wgt_low s (i : Int) (n : Int) (by omega) (by omega) (by omega)
  have h2 := wgt_top s (i : Int) (n : Int) (by omega) (by omega)
  refine ⟨_, _, rfl, h, fun hp => shrink_pos _ _ hp h1 h2, fun hp => shrink_neg _ _ hp h1 h2, ?_⟩
  rintro rfl
  rw [wgt_flat]
  exact Int.mul_ediv_cancel _ (by decide)

set_option maxHeartbeats 4000000 in
theorem walk_WindowShrinks (w : World) (vx : Value) (x : List Int) (hx : Sl w vx (x.map (Value.int .i64))) (_ : ∀ n ∈ x, (Lit.int .i64 n).wf = true) (shape : Int) (wsh : (Lit.int .u8 shape).wf = true) :
    Calls Try.prog 6 #[vx, .int .u8 shape] w fun e w' => e = .returned (.bool true) ∧ Kept Nix w w' := by
  have HA := awake_any w
  obtain ⟨xo, xcap, rfl, -⟩ := hx.ints
  obtain ⟨s, s1, s2, s3⟩ := shape_nums shape wsh
  have HX := Lib.hid (sl_ivs hx)
  have S3 := Lib.hid s3
  have S1 := Lib.hid s1
  have S2 := Lib.hid s2
  clear hx wsh s3 s1 s2
  go_enter Try.func6, Try.ntmps6
  go_upto_region 3 with (first
    | (go_at_call 9; refine HA.mono ?_; rintro e w1 ⟨rfl, k1⟩; have K1 := Lib.hid k1; clear k1; have NR := Lib.hid (rnear_any _ x w1 (HX.out.nix K1.out)))
    | (go_at_call 15; refine NR.out.mono ?_; rintro e w2 ⟨rfl, rfl⟩; clear NR))
  clear HA
  by_cases hlen : 100 < x.length
  · have hd : decide ((100 : Int) < (x.length : Int)) = true := decide_eq_true (by omega)
    clear hlen
    go_wp2
    go_ret
    exact ⟨rfl, K1.out⟩
  have hd : decide ((100 : Int) < (x.length : Int)) = false := decide_eq_false (by omega)
  cases hn : near x with
  | false =>
    clear hlen
    go_wp2
    go_ret
    exact ⟨rfl, K1.out⟩
  | true =>
    have HB := Lib.hid (near_bd hn)
    have HLX := Lib.hid (show x.length ≤ 100 by omega)
    clear hlen hn
    generalize hl : x.length = l at *
    have HL := Lib.hid hl
    clear hl
    have W1 := Lib.hid (weights_ok s l w2 S3.out (by have := HLX.out; omega))
    have A1 : Hid (∀ w' u, Kept Nix w w' → Sl w' u (ivs (wl s l)) → Calls Try.prog 16 #[.slice xo l xcap, u] w' fun e w'' => ∃ u, e = .returned (.tuple #[u, .int .i64 0]) ∧ w''.ownsRow w'.heap.size 3 1 u l (ivs (apL x (wl s l))) ∧ Kept Nix w' w'') := Lib.hid (fun w' u hk hu => by
      have h := apply_any _ _ x (wl s l) w' (HX.out.nix hk) hu (by rw [wl_length]; exact HL.out) HB.out (wl_bd0 s l (by have := HLX.out; omega)) (by have := HLX.out; have := HL.out; omega)
      unfold ApPost at h
      rwa [HL.out] at h)
    have hll : ((l : Int) != (l : Int)) = false := bne_self_eq_false _
    have s1 := S1.out
    have s2 := S2.out
    go_upto_region 10 with (first
      | (go_at_call 12; refine W1.out.mono ?_; rintro e w3 ⟨u3, rfl, o3, k3⟩; have K3 := Lib.hid (nix_trans K1.out k3); have A2 := Lib.hid (A1.out w3 u3 K3.out (sl_of_owns o3)); obtain ⟨ao3, cap3, rfl, _, _⟩ := owns_shape o3; clear o3 k3 W1 A1)
      | (go_at_call 16; refine A2.out.mono ?_; rintro e w4 ⟨u4, rfl, o4, k4⟩; have K4 := Lib.hid (nix_trans K3.out k4); have O4 := Lib.hid o4; obtain ⟨ao4, cap4, rfl, _, _⟩ := owns_shape o4; clear o4 k4 A2))
    clear hd hll s1 s2
    refine wp_loop (ShrInv (.slice xo l xcap) (.slice ao4 l cap4) shape l w4) (fun a _ => l - (intOf (a.tmps.getD 11 undef)).toNat) ?_ ?_
    · exact ⟨rfl, rfl, rfl, rfl, rfl, rfl, 0, Nat.zero_le _, rfl, 0, rfl⟩
    · rintro ⟨tm, df⟩ w5 ⟨rfl, hs, h0, h1, h5, h9, i, hi, h11, q, rfl⟩
      simp only at hs h0 h1 h5 h9 h11
      obtain ⟨f, hf, hg⟩ := fr_open hs
      have e0 := hg _ _ h0
      have e1 := hg _ _ h1
      have e5 := hg _ _ h5
      have e9 := hg _ _ h9
      have e11 := hg _ _ h11
      simp only [List.range, List.range.loop, List.map] at hf
      rw [e0, e1, e5, e9, e11] at hf
      clear e0 e1 e5 e9 e11 hg hs h0 h1 h5 h9 h11
      subst hf
      by_cases hlt : i < l
      · obtain ⟨b1, o1, rfl, hc1⟩ := cell_kept HX.out i (by rw [HL.out]; exact hlt)
        have c1 : w4.cell? ⟨b1, o1 + i, none⟩ = some (.int .i64 (x.getD i 0)) := hc1 w4 K4.out
        obtain ⟨z, y, hz, hy, p1, p2, p3⟩ := shr_at x s l i HL.out HLX.out hlt S3.out
        obtain ⟨g4, c4, e4, _, _, _, _⟩ := owns_pos O4.out (by omega)
        simp only [Value.slice.injEq, true_and] at e4
        obtain ⟨rfl, rfl⟩ := e4
        have c2 : w4.cell? ⟨g4, i, none⟩ = some (.int .i64 ((apL x (wl s l)).getD i 0)) := by
          have := O4.out.cellAt i (by omega)
          rw [ivs_get _ _ (by rw [apL_length _ _ (by rw [wl_length]; exact HL.out), HL.out]; exact hlt)] at this
          exact this
        rw [hz] at c1
        rw [hy] at c2
        obtain ⟨n1, n2, n3, n4⟩ := shr_nums i l hlt HLX.out
        have N1 := Lib.hid n1
        have HI := Lib.hid hlt
        have s1 := S1.out
        clear n1 hlt hi hc1 hz hy
        by_cases hzp : 0 ≤ z
        · obtain ⟨q1, q2⟩ := p1 hzp
          have d1 : decide (0 ≤ z) = true := decide_eq_true hzp
          have d2 : decide (y < 0) = false := decide_eq_false (by omega)
          have d3 : decide (z < y) = false := decide_eq_false (by omega)
          have d4 : decide (z < 0) = false := decide_eq_false (by omega)
          by_cases hs0 : s = 0
          · have hyz := p3 hs0
            subst hyz
            have d5 : (y != y) = false := bne_self_eq_false _
            have d6 : (s == 0) = true := beq_iff_eq.2 hs0
            clear hs0 p1 p2 p3 q1 q2 hzp
            go_upto_region 12 with fail
            go_quiet (fail)
            go_wp2
            rw [N1.out]
            exact ⟨⟨rfl, rfl, rfl, rfl, rfl, rfl, i + 1, HI.out, rfl, _, rfl⟩, nearer HI.out rfl⟩
          · have d6 : (s == 0) = false := beq_false_of_ne hs0
            clear hs0 p1 p2 p3 q1 q2 hzp
            go_upto_region 12 with fail
            go_quiet (fail)
            go_wp2
            rw [N1.out]
            exact ⟨⟨rfl, rfl, rfl, rfl, rfl, rfl, i + 1, HI.out, rfl, _, rfl⟩, nearer HI.out rfl⟩
        · obtain ⟨q1, q2⟩ := p2 (by omega)
          have d1 : decide (0 ≤ z) = false := decide_eq_false hzp
          have d2 : decide (0 ≤ y) = false := decide_eq_false (by omega)
          have d3 : decide (y < z) = false := decide_eq_false (by omega)
          have d4 : decide (z < 0) = true := decide_eq_true (by omega)
          by_cases hs0 : s = 0
          · have hyz := p3 hs0
            subst hyz
            have d5 : (y != y) = false := bne_self_eq_false _
            have d6 : (s == 0) = true := beq_iff_eq.2 hs0
            clear hs0 p1 p2 p3 q1 q2 hzp
            go_upto_region 12 with fail
            go_quiet (fail)
            go_wp2
            rw [N1.out]
            exact ⟨⟨rfl, rfl, rfl, rfl, rfl, rfl, i + 1, HI.out, rfl, _, rfl⟩, nearer HI.out rfl⟩
          · have d6 : (s == 0) = false := beq_false_of_ne hs0
            clear hs0 p1 p2 p3 q1 q2 hzp
            go_upto_region 12 with fail
            go_quiet (fail)
            go_wp2
            rw [N1.out]
            exact ⟨⟨rfl, rfl, rfl, rfl, rfl, rfl, i + 1, HI.out, rfl, _, rfl⟩, nearer HI.out rfl⟩
      · have hdd : decide (i < l) = false := decide_eq_false hlt
        clear hlt hi
        go_wp2
        go_ret
        exact ⟨rfl, K4.out.drewN _⟩

end Go.Proofs.Ytcenfidenmppcaa
