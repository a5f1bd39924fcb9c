/- The walk of PcmChecks. -/
import Derived.Test.YtpiongdkfebchaaAwake06
import Derived.Test.YtpiongdkfebchaaRefCheck6
namespace Go.Proofs.Ytpiongdkfebchaa
open Go.RowKit Bx

theorem check_in (w0 : World) (r d : Int) (v : Value) (L : List (List Int)) (h : Chs w0 v L) (hM : manyN L < 1099511627776) (w : World) (hk : Kept Nix w0 w) : Calls Try.prog 11 #[.agg #[.int .i64 r, .int .i64 d, v]] w fun e w' => e = .returned (.int .i64 (chkE r d L)) ∧ Kept Nix w0 w' :=
  (check_any r d v L w (h.nix hk) hM).mono fun _ _ ⟨h1, h2⟩ => ⟨h1, nix_trans hk h2⟩
theorem rcheck_in (w0 : World) (r d : Int) (v : Value) (L : List (List Int)) (h : Chs w0 v L) (w : World) (hk : Kept Nix w0 w) : Calls Try.prog 12 #[.agg #[.int .i64 r, .int .i64 d, v]] w fun e w' => e = .returned (.int .i64 (chkE r d L)) ∧ Kept Nix w0 w' :=
  (rcheck_any r d v L w (h.nix hk)).mono fun _ _ ⟨h1, h2⟩ => ⟨h1, nix_trans hk h2⟩
theorem rmany_in (w0 : World) (r d : Int) (v : Value) (L : List (List Int)) (h : Chs w0 v L) (w : World) (hk : Kept Nix w0 w) : Calls Try.prog 14 #[.agg #[.int .i64 r, .int .i64 d, v]] w fun e w' => e = .returned (.int .i64 ((manyN L : Nat) : Int)) ∧ Kept Nix w0 w' :=
  (rmany_any r d v L w (h.nix hk)).mono fun _ _ ⟨h1, h2⟩ => ⟨h1, nix_trans hk h2⟩

theorem few_many {L : List (List Int)} (h : fewB L = true) : manyN L < 1099511627776 := by
  unfold fewB at h
  rw [Bool.and_eq_true, List.all_eq_true] at h
  unfold manyN
  cases L with
  | nil => simp
  | cons c L =>
    have := h.1 c (by simp)
    simp at this
    simp
    omega

set_option maxRecDepth 10000 in
set_option maxHeartbeats 2000000 in
theorem walk_PcmChecks (w : World) (r d : Int) (_ : (Lit.int .i64 r).wf = true) (_ : (Lit.int .i64 d).wf = true) (v : Value) (L : List (List Int)) (hch : Chs w v L) (_ : ∀ c ∈ L, ∀ n ∈ c, (Lit.int .i64 n).wf = true)
    (n : Int) (_ : (Lit.int .i64 n).wf = true) (dep : Int) (_ : (Lit.int .i64 dep).wf = true) :
    Calls Try.prog 3 #[.agg #[.int .i64 r, .int .i64 d, v], .int .i64 n, .int .i64 dep] w fun e w' => e = .returned (.bool true) ∧ Kept Nix w w' := by
  have k1 : Kept Nix w (w.alloc (.cells #[.int .i64 r, .int .i64 d, v] 24)) := (Kept.refl _ w).alloc _
  have hb1 : (w.alloc (.cells #[.int .i64 r, .int .i64 d, v] 24)).heap[w.heap.size]? = some (.cells #[.int .i64 r, .int .i64 d, v] 24 (0, 0)) := heap_alloc_new w _
  have HA := awake_any (w.alloc (.cells #[.int .i64 r, .int .i64 d, v] 24))
  have HCH := Lib.hid (hch.nix k1)
  have K1 := Lib.hid k1
  have HB1 := Lib.hid hb1
  obtain ⟨ao, cap, rfl, _⟩ := hch.open
  clear hch k1 hb1
  go_enter Try.func3, Try.ntmps3
  go_upto_region 3 with (first
    | (go_at_call 9; refine HA.mono ?_; rintro e w2 ⟨rfl, k2⟩; have HB2 := Lib.hid (k2.heap HB1.out id); have HC2 := Lib.hid (HCH.out.nix k2); have K2 := Lib.hid (nix_trans K1.out k2); have y0 := cell_of (i := 0) HB2.out; have y1 := cell_of (i := 1) HB2.out; have y2 := cell_of (i := 2) HB2.out; have HF := rfew_any r d _ L w2 HC2.out; clear k2 HA)
    | (go_at_call 10; refine HF.mono ?_; rintro e w3 ⟨rfl, k3⟩; have HB3 := Lib.hid (k3.heap HB2.out id); have HC3 := Lib.hid (HC2.out.nix k3); have K3 := Lib.hid (nix_trans K2.out k3); clear k3 HF y0 y1 y2))
  cases hf : fewB L with
  | false =>
    go_wp2
    go_ret
    exact ⟨rfl, K3.out⟩
  | true =>
    have hM := few_many hf
    have C1 := Lib.hid (check_in w3 r d _ L HC3.out hM)
    have C2 := Lib.hid (rcheck_in w3 r d _ L HC3.out)
    have C3 := Lib.hid (many_in w3 r d _ L HC3.out)
    have C4 := Lib.hid (rmany_in w3 r d _ L HC3.out)
    have hz1 : w3.cell? ⟨w.heap.size, 0, none⟩ = some (.int .i64 r) := by rw [cell_of HB3.out]; rfl
    have hz2 : w3.cell? ⟨w.heap.size, 1, none⟩ = some (.int .i64 d) := by rw [cell_of HB3.out]; rfl
    have hz3 : w3.cell? ⟨w.heap.size, 2, none⟩ = some (.slice ao L.length cap) := by rw [cell_of HB3.out]; rfl
    have CL := Lib.hid (show ∀ w', Kept Nix w3 w' → w'.cell? ⟨w.heap.size, 0, none⟩ = some (.int .i64 r) ∧ w'.cell? ⟨w.heap.size, 1, none⟩ = some (.int .i64 d) ∧ w'.cell? ⟨w.heap.size, 2, none⟩ = some (.slice ao L.length cap) from by
      intro w' hk
      have hb := hk.heap HB3.out id
      refine ⟨?_, ?_, ?_⟩ <;> (rw [cell_of hb]; rfl))
    clear HB1 HB2 HC2 HCH K1 K2 hM
    generalize chkE r d L = e0 at *
    generalize manyN L = m0 at *
    obtain ⟨i0, hi0⟩ : ∃ i0, inD n dep = i0 := ⟨_, rfl⟩
    have I1 := in_any n dep
    have I2 := rin_any n dep
    rw [hi0] at I1 I2
    have q1 : (e0 == e0) = true := by simp
    have q2 : ((m0 : Int) == (m0 : Int)) = true := by simp
    have q3 : (i0 == i0) = true := by simp
    have q4 : (((eachN dep : Nat) : Int) == ((eachN dep : Nat) : Int)) = true := by simp
    generalize w.heap.size = p at *
    clear hi0 hf
    go_wp2_with fail
    go_region_held3 (fun w' => Kept Nix w3 w' ∧ w'.cell? ⟨p, 0, none⟩ = some (.int .i64 r) ∧ w'.cell? ⟨p, 1, none⟩ = some (.int .i64 d) ∧ w'.cell? ⟨p, 2, none⟩ = some (.slice ao L.length cap))
      (first | assumption | exact ⟨(Kept.refl _ _).drew, hz1, hz2, hz3⟩ | exact ⟨HKK.out, CL.out _ HKK.out⟩ | go_keep)
      (first
        | (go_at_call 11; refine (C1.out _ (And.left (by assumption))).mono ?_; rintro e wx ⟨rfl, kx⟩; have HKK := Lib.hid kx; clear kx)
        | (go_at_call 12; refine (C2.out _ (And.left (by assumption))).mono ?_; rintro e wx ⟨rfl, kx⟩; have HKK := Lib.hid kx; clear kx)
        | (go_at_call 13; refine (C3.out _ (And.left (by assumption))).mono ?_; rintro e wx ⟨rfl, kx, _⟩; have HKK := Lib.hid kx; clear kx)
        | (go_at_call 14; refine (C4.out _ (And.left (by assumption))).mono ?_; rintro e wx ⟨rfl, kx⟩; have HKK := Lib.hid kx; clear kx)
        | (go_at_call 15; refine (I1 _).mono ?_; rintro e wx ⟨rfl, rfl⟩)
        | (go_at_call 16; refine (I2 _).mono ?_; rintro e wx ⟨rfl, rfl⟩)
        | (go_at_call 17; refine (each_any _ _).mono ?_; rintro e wx ⟨rfl, rfl⟩)
        | (go_at_call 18; refine (reach_any _ _).mono ?_; rintro e wx ⟨rfl, rfl⟩))
    all_goals
      go_wp2_with fail
      go_ret
      exact ⟨rfl, nix_trans K3.out (And.left (by assumption))⟩

end Go.Proofs.Ytpiongdkfebchaa
