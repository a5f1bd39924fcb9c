/- Package cost: rawBits, Each; a part in memory. -/
import Derived.Test.YtliggpidkdiinaaCostBits
import Derived.Test.YtliggpidkdiinaaAgg
namespace Go.Proofs.Ytliggpidkdiinaa
open Go.RowKit Bx

theorem size_part : (Try.prog.info? 39).map (·.size) = some 2 := by kernel_rfl

theorem part_cells (w : World) (k : Int) (r : Bool) (t : TypeId) : ∀ w', Kept Nix (w.alloc (.cells #[.int .i64 k, .bool r] t)) w' → w'.cell? ⟨w.heap.size, 0, none⟩ = some (.int .i64 k) ∧ w'.cell? ⟨w.heap.size, 1, none⟩ = some (.bool r) ∧ w'.heap[w.heap.size]? = some (.cells #[.int .i64 k, .bool r] t (0, 0)) := by
  intro w' hk
  have hb := hk.heap (heap_alloc_new w (.cells #[.int .i64 k, .bool r] t)) id
  exact ⟨by rw [cell_of hb]; rfl, by rw [cell_of hb]; rfl, hb⟩

theorem raw_any (l : Nat) (k : Int) (w : World) (hl : l ≤ 1048576) (h0 : -100 ≤ k) (h1 : k ≤ 100) :
    Calls Try.prog 28 #[.int .i64 (l : Int), .int .i64 k] w fun e w' => e = .returned (.int .i64 (5 + (l : Int) * k)) ∧ w' = w := by
  have hb : (l : Int) * k ≤ 104857600 ∧ -104857600 ≤ (l : Int) * k := by
    have e1 : (l : Int) * k ≤ (l : Int) * 100 := Int.mul_le_mul_of_nonneg_left h1 (by omega)
    have e2 : (l : Int) * (-100) ≤ (l : Int) * k := Int.mul_le_mul_of_nonneg_left h0 (by omega)
    omega
  have HP := Lib.hid (show wrap64 ((l : Int) * k) = (l : Int) * k from w64_in _ (by omega))
  have HQ := Lib.hid (show wrap64 (5 + (l : Int) * k) = 5 + (l : Int) * k from w64_in _ (by omega))
  clear hb
  go_enter Try.func28, Try.ntmps28
  go_wp2
  go_ret
  refine ⟨ret_int ?_, rfl⟩
  first
    | rw [HP.out, HQ.out]
    | rw [HQ.out]
    | rfl

set_option maxHeartbeats 1000000 in
theorem ceach_any (v : Value) (L : List Int) (k : Int) (r : Bool) (w : World) (hv : Sl w v (ivs L)) (hl : L.length ≤ 1048576) :
    Calls Try.prog 26 #[v, .agg #[.int .i64 k, .bool r]] w fun e w' => e = .returned (.int .i64 (ceach L k r)) ∧ Kept Nix w w' := by
  obtain ⟨ao, ca, rfl, -⟩ := hv.ints
  have k1 : Kept Nix w (w.alloc (.cells #[.int .i64 k, .bool r] 39)) := (Kept.refl _ w).alloc _
  obtain ⟨y0, y1, -⟩ := part_cells w k r 39 _ (Kept.refl _ _)
  have K1 := Lib.hid k1
  have HV := hv.nix k1
  cases r with
  | false =>
    have HB := Lib.hid (cbits_any _ L k _ HV hl)
    have HE := Lib.hid (show ceach L k false = cbits L k from rfl)
    generalize ceach L k false = q at *
    generalize cbits L k = s at *
    clear hv k1 HV hl
    go_enter Try.func26, Try.ntmps26
    go_upto_region 1 with fail
    generalize w.alloc (.cells #[.int .i64 k, .bool false] 39) = w1 at *
    generalize w.heap.size = g at *
    go_wp2_with (go_at_call 31; refine HB.out.mono ?_; rintro e w2 ⟨rfl, rfl⟩)
    go_ret
    exact ⟨by rw [HE.out]; rfl, K1.out⟩
  | true =>
    have HW := Lib.hid (cwidth_any _ L _ HV)
    have HL := Lib.hid hl
    by_cases hc : nrs L = true ∧ (cw L : Int) ≤ k ∧ k ≤ 31
    · obtain ⟨c1, c2, c3⟩ := hc
      have hq : ceach L k true = 5 + (L.length : Int) * k := by simp [ceach, c1, c2, c3, Int.mul_comm]
      have HQ := Lib.hid hq
      have e1 : cwid L = (cw L : Int) := by simp [cwid, c1]
      rw [e1] at HW
      have t1 : decide ((cw L : Int) < 0) = false := decide_eq_false (by omega)
      have t2 : decide (k < (cw L : Int)) = false := decide_eq_false (by omega)
      have t3 : decide (31 < k) = false := decide_eq_false (by omega)
      have HR := Lib.hid (fun w => raw_any L.length k w HL.out (by omega) (by omega))
      generalize ceach L k true = q at *
      clear hv k1 HV hl c1 c2 c3 e1 hq
      generalize cw L = c at *
      generalize L.length = l at *
      go_enter Try.func26, Try.ntmps26
      go_upto_region 1 with fail
      generalize w.alloc (.cells #[.int .i64 k, .bool true] 39) = w1 at *
      generalize w.heap.size = g at *
      go_wp2_with (first | (go_at_call 16; refine HW.out.mono ?_; rintro e w2 ⟨rfl, rfl⟩) | (go_at_call 28; refine (HR.out _).mono ?_; rintro e w3 ⟨rfl, rfl⟩))
      go_ret
      exact ⟨by rw [HQ.out]; rfl, K1.out⟩
    · have hq : ceach L k true = -1 := by simp only [ceach, if_true]; rw [if_neg hc]
      have HQ := Lib.hid hq
      have hcases : decide (cwid L < 0) = true ∨ (decide (cwid L < 0) = false ∧ decide (k < cwid L) = true) ∨ (decide (cwid L < 0) = false ∧ decide (k < cwid L) = false ∧ decide (31 < k) = true) := by
        simp only [decide_eq_true_eq, decide_eq_false_iff_not]
        unfold cwid
        cases hn : nrs L with
        | false => simp
        | true =>
          simp only [hn, true_and] at hc
          rw [if_pos rfl]
          omega
      generalize cwid L = c at *
      generalize ceach L k true = q at *
      clear hv k1 HV hl hc hq
      generalize L.length = l at *
      go_enter Try.func26, Try.ntmps26
      go_upto_region 1 with fail
      generalize w.alloc (.cells #[.int .i64 k, .bool true] 39) = w1 at *
      generalize w.heap.size = g at *
      rcases hcases with a1 | ⟨a1, a2⟩ | ⟨a1, a2, a3⟩
      all_goals
        go_wp2_with (first | (go_at_call 16; refine HW.out.mono ?_; rintro e w2 ⟨rfl, rfl⟩))
        go_ret
        exact ⟨by rw [HQ.out]; rfl, K1.out⟩

end Go.Proofs.Ytliggpidkdiinaa
