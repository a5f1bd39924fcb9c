/- The walk of PcmBack. -/
import Derived.Test.YtpiongdkfebchaaAwake06
import Derived.Test.YtpiongdkfebchaaLChecks6
import Derived.Test.YtpiongdkfebchaaRefSame6
import Derived.Test.YtpiongdkfebchaaUnbMath
namespace Go.Proofs.Ytpiongdkfebchaa
open Go.RowKit Bx

theorem few_rows {L : List (List Int)} (h : fewB L = true) : (∀ c ∈ L, c.length < 1099511627776) ∧ manyN L ≤ 50 ∧ L.length ≤ 10 := by
  unfold fewB at h
  rw [Bool.and_eq_true, List.all_eq_true, decide_eq_true_eq] at h
  refine ⟨fun c hc => ?_, ?_, h.2⟩
  · have := h.1 c hc
    simp at this
    omega
  · unfold manyN
    cases L with
    | nil => simp
    | cons c L =>
      have := h.1 c (by simp)
      simpa using this

theorem bytes_few {L : List (List Int)} (d : Int) (h1 : manyN L ≤ 50) (h2 : L.length ≤ 10) : (bytesOf L d).length ≤ 2000 := by
  rw [bytes_len]
  exact Nat.mul_le_mul (eachN_hi d) (Nat.mul_le_mul h1 h2)

theorem mul_facts {e M C : Nat} (he : e ≤ 4) (hM : M ≤ 50) (hC : C ≤ 10) : ∃ m1 m2 : Nat, m2 = e * M * C ∧ wrap64 ((e : Int) * (M : Int)) = (m1 : Int) ∧ wrap64 ((m1 : Int) * (C : Int)) = (m2 : Int) ∧ wrap64 ((e : Int) * (M : Int) * (C : Int)) = (m2 : Int) ∧
    IntKind.i64.wrap ((e : Int) * (M : Int)) = (m1 : Int) ∧ IntKind.i64.wrap ((m1 : Int) * (C : Int)) = (m2 : Int) ∧ IntKind.i64.wrap ((e : Int) * (M : Int) * (C : Int)) = (m2 : Int) := by
  have h1 : e * M ≤ 200 := Nat.mul_le_mul he hM
  have h2 : e * M * C ≤ 2000 := Nat.mul_le_mul h1 hC
  refine ⟨e * M, e * M * C, rfl, ?_⟩
  rw [← Int.natCast_mul, ← Int.natCast_mul]
  generalize e * M * C = y at *
  generalize e * M = x at *
  exact ⟨w64_in _ (by omega), w64_in _ (by omega), w64_in _ (by omega), by rw [IntKind.wrap_i64]; omega, by rw [IntKind.wrap_i64]; omega, by rw [IntKind.wrap_i64]; omega⟩

theorem rsame_in (w0 : World) (r d r' d' : Int) (v v' : Value) (L M : List (List Int)) (h : Chs w0 v L) (h' : Chs w0 v' M) (hb : ∀ c ∈ L, c.length < 1099511627776) (w : World) (hk : Kept Nix w0 w) :
    Calls Try.prog 21 #[.agg #[.int .i64 r, .int .i64 d, v], .agg #[.int .i64 r', .int .i64 d', v']] w fun e w' => e = .returned (.bool (sameS r d L r' d' M)) ∧ Kept Nix w0 w' :=
  (rsame_any r d r' d' v v' L M w (h.nix hk) (h'.nix hk) hb).mono fun _ _ ⟨h1, h2⟩ => ⟨h1, nix_trans hk h2⟩

theorem sameS_self (r d : Int) (L : List (List Int)) : sameS r d L r d L = true := by simp [sameS]

set_option maxRecDepth 10000 in
set_option maxHeartbeats 4000000 in
theorem walk_PcmBack (w : World) (r d : Int) (_ : (Lit.int .i64 r).wf = true) (_ : (Lit.int .i64 d).wf = true) (v : Value) (L : List (List Int)) (hch : Chs w v L) (_ : ∀ c ∈ L, ∀ n ∈ c, (Lit.int .i64 n).wf = true)
    (vb : Value) (zs : List Int) (hvb : Sl w vb (zs.map (Value.int .u8))) (hzs : ∀ n ∈ zs, (Lit.int .u8 n).wf = true)
    (rt : Int) (_ : (Lit.int .i64 rt).wf = true) (dp : Int) (_ : (Lit.int .i64 dp).wf = true) (cn : Int) (_ : (Lit.int .i64 cn).wf = true) :
    Calls Try.prog 6 #[.agg #[.int .i64 r, .int .i64 d, v], vb, .int .i64 rt, .int .i64 dp, .int .i64 cn] w fun e w' => e = .returned (.bool true) ∧ Kept Nix w w' := by
  obtain ⟨B, hvB, hB, hBz⟩ := hvb.nats hzs
  clear hBz
  have k1 : Kept Nix w (w.alloc (.cells #[.int .i64 r, .int .i64 d, v] 24)) := (Kept.refl _ w).alloc _
  have hb1 : (w.alloc (.cells #[.int .i64 r, .int .i64 d, v] 24)).heap[w.heap.size]? = some (.cells #[.int .i64 r, .int .i64 d, v] 24 (0, 0)) := heap_alloc_new w _
  have HA := awake_any (w.alloc (.cells #[.int .i64 r, .int .i64 d, v] 24))
  have HCH := Lib.hid (hch.nix k1)
  have K1 := Lib.hid k1
  have HB1 := Lib.hid hb1
  have HVB := Lib.hid hvB
  have HBB := Lib.hid hB
  obtain ⟨ao, cap, rfl, _⟩ := hch.open
  obtain ⟨bo, bcap, rfl⟩ := hvB.shape
  clear hch k1 hb1 hvB hB hvb hzs
  go_enter Try.func6, Try.ntmps6
  go_upto_region 3 with (first
    | (go_at_call 9; refine HA.mono ?_; rintro e w2 ⟨rfl, k2⟩; have HB2 := Lib.hid (k2.heap HB1.out id); have HC2 := Lib.hid (HCH.out.nix k2); have K2 := Lib.hid (nix_trans K1.out k2); have y0 := cell_of (i := 0) HB2.out; have y1 := cell_of (i := 1) HB2.out; have y2 := cell_of (i := 2) HB2.out; have HF := rfew_any r d _ L w2 HC2.out; clear k2 HA)
    | (go_at_call 10; refine HF.mono ?_; rintro e w3 ⟨rfl, k3⟩; have HB3 := Lib.hid (k3.heap HB2.out id); have HC3 := Lib.hid (HC2.out.nix k3); have K3 := Lib.hid (nix_trans K2.out k3); clear k3 HF y0 y1 y2))
  cases hf : fewB L with
  | false =>
    go_wp2
    go_ret
    exact ⟨rfl, K3.out⟩
  | true =>
    by_cases hbl : 300 < B.length
    · have hd : decide (300 < (B.length : Int)) = true := decide_eq_true (by omega)
      clear hbl
      go_wp2
      go_ret
      exact ⟨rfl, K3.out⟩
    · have hd : decide (300 < (B.length : Int)) = false := decide_eq_false (by omega)
      have HBL := Lib.hid hbl
      have HFEW := Lib.hid (few_rows hf)
      have hM := few_many hf
      have HMB := Lib.hid hM
      have hz0 : w3.cell? ⟨w.heap.size, 0, none⟩ = some (.int .i64 r) := by rw [cell_of HB3.out]; rfl
      have hz1 : w3.cell? ⟨w.heap.size, 1, none⟩ = some (.int .i64 d) := by rw [cell_of HB3.out]; rfl
      have hz2 : w3.cell? ⟨w.heap.size, 2, none⟩ = some (.slice ao L.length cap) := by rw [cell_of HB3.out]; rfl
      have CK := check_any r d _ L w3 HC3.out hM
      clear hbl hf hM HB1 HB2 HC2 HCH K1 K2
      by_cases hchk : chkE r d L = 0
      case' pos =>
        rw [hchk] at CK
        have HCK := Lib.hid hchk
        clear hchk
        go_upto_region 6 with (first
          | (go_at_call 11; refine CK.mono ?_; rintro e w4 ⟨rfl, k4⟩; have HB4 := Lib.hid (k4.heap HB3.out id); have HC4 := Lib.hid (HC3.out.nix k4); have K4 := Lib.hid (nix_trans K3.out k4); clear k4 CK))
        have y0 : w4.cell? ⟨w.heap.size, 0, none⟩ = some (.int .i64 r) := by rw [cell_of HB4.out]; rfl
        have y1 : w4.cell? ⟨w.heap.size, 1, none⟩ = some (.int .i64 d) := by rw [cell_of HB4.out]; rfl
        have y2 : w4.cell? ⟨w.heap.size, 2, none⟩ = some (.slice ao L.length cap) := by rw [cell_of HB4.out]; rfl
        have BY := bytes_good r d _ L w4 HC4.out HMB.out HCK.out
        clear hz0 hz1 hz2
        go_upto_region 7 with (first
          | (go_at_call 23; refine BY.mono ?_; rintro e w5 ⟨u, rfl, hu5, k5⟩; have HB5 := Lib.hid (k5.heap HB4.out id); have HC5 := Lib.hid (HC4.out.nix k5); have K5 := Lib.hid (nix_trans K4.out k5); have HU5 := Lib.hid hu5; clear k5 BY hu5))
        clear y0 y1 y2
        have y0 : w5.cell? ⟨w.heap.size, 0, none⟩ = some (.int .i64 r) := by rw [cell_of HB5.out]; rfl
        have y1 : w5.cell? ⟨w.heap.size, 1, none⟩ = some (.int .i64 d) := by rw [cell_of HB5.out]; rfl
        have y2 : w5.cell? ⟨w.heap.size, 2, none⟩ = some (.slice ao L.length cap) := by rw [cell_of HB5.out]; rfl
        have HBYL := Lib.hid (bytes_few d HFEW.out.2.1 HFEW.out.2.2)
        have UB := unb_any u (bytesOf L d) r d (L.length : Int) w5 HU5.out (bytes_lt L d) (by have := HBYL.out; omega)
        obtain ⟨uo, ucap, rfl⟩ := HU5.out.shape
        go_upto_region 8 with (first
          | (go_at_call 19; refine UB.mono ?_; rintro e w6 ⟨R, D, tv, TL, rfl, k6, hc6, heq⟩; rw [(unb_bytes HCK.out).2] at heq; rw [(unb_bytes HCK.out).1]; simp only [Prod.mk.injEq] at heq; obtain ⟨rfl, rfl, rfl⟩ := heq; obtain ⟨to, tcap, rfl, _⟩ := hc6.open; have HB6 := Lib.hid (k6.heap HB5.out id); have HC6 := Lib.hid (HC5.out.nix k6); have K6 := Lib.hid (nix_trans K5.out k6); have HT6 := Lib.hid hc6; clear k6 hc6 UB))
        have k7 : Kept Nix w6 (w6.alloc (.cells #[.int .i64 R, .int .i64 D, .slice to TL.length tcap] 24)) := (Kept.refl _ _).alloc _
        have b7 : (w6.alloc (.cells #[.int .i64 R, .int .i64 D, .slice to TL.length tcap] 24)).heap[w6.heap.size]? = some (.cells #[.int .i64 R, .int .i64 D, .slice to TL.length tcap] 24 (0, 0)) := heap_alloc_new w6 _
        generalize (w6.alloc (.cells #[.int .i64 R, .int .i64 D, .slice to TL.length tcap] 24)) = w7 at *
        have HB7 := Lib.hid (k7.heap HB6.out id)
        have HB7t := Lib.hid b7
        have HC7 := Lib.hid (HC6.out.nix k7)
        have HT7 := Lib.hid (HT6.out.nix k7)
        have K7 := Lib.hid (nix_trans K6.out k7)
        have CL := Lib.hid (show ∀ w', Kept Nix w7 w' → w'.cell? ⟨w.heap.size, 0, none⟩ = some (.int .i64 R) ∧ w'.cell? ⟨w.heap.size, 1, none⟩ = some (.int .i64 D) ∧ w'.cell? ⟨w.heap.size, 2, none⟩ = some (.slice ao TL.length cap) ∧ w'.cell? ⟨w6.heap.size, 0, none⟩ = some (.int .i64 R) ∧ w'.cell? ⟨w6.heap.size, 1, none⟩ = some (.int .i64 D) ∧ w'.cell? ⟨w6.heap.size, 2, none⟩ = some (.slice to TL.length tcap) from by
          intro w' hk
          have hb := hk.heap HB7.out id
          have hb' := hk.heap HB7t.out id
          refine ⟨?_, ?_, ?_, ?_, ?_, ?_⟩ <;> first | (rw [cell_of hb]; rfl) | (rw [cell_of hb']; rfl))
        have RS := Lib.hid (rsame_in w7 R D R D _ _ TL TL HC7.out HT7.out HFEW.out.1)
        have MI := Lib.hid (many_in w7 R D _ TL HC7.out)
        rw [sameS_self] at RS
        obtain ⟨m1, m2, hm2, f1, f2', f3, f4, f5, f6⟩ := mul_facts (eachN_hi D) HFEW.out.2.1 HFEW.out.2.2
        have hbl2 : (bytesOf TL D).length = m2 := by rw [bytes_len, hm2, Nat.mul_assoc]
        rw [hbl2]
        have hq : ((m2 : Int) != (m2 : Int)) = false := by simp
        have hcl := CL.out w7 (Kept.refl _ _)
        clear y0 y1 y2 k7 b7 HB6 HC6 HT6 K6 HB5 HC5 HU5 K5 HB4 HC4 K4 hm2 hbl2
        generalize w6.heap.size = p14 at *
        generalize w.heap.size = p5 at *
        generalize manyN TL = mm at *
        have EA := Lib.hid (each_any D)
        generalize eachN D = ee at *
        go_wp2_with fail
        go_region_held3 (fun w' => Kept Nix w7 w' ∧ w'.cell? ⟨p5, 0, none⟩ = some (.int .i64 R) ∧ w'.cell? ⟨p5, 1, none⟩ = some (.int .i64 D) ∧ w'.cell? ⟨p5, 2, none⟩ = some (.slice ao TL.length cap) ∧ w'.cell? ⟨p14, 0, none⟩ = some (.int .i64 R) ∧ w'.cell? ⟨p14, 1, none⟩ = some (.int .i64 D) ∧ w'.cell? ⟨p14, 2, none⟩ = some (.slice to TL.length tcap))
          (first | assumption | exact ⟨(Kept.refl _ _).drew, hcl⟩ | exact ⟨HKK.out, CL.out _ HKK.out⟩ | go_keep)
          (first
            | (go_at_call 21; refine (RS.out _ (And.left (by assumption))).mono ?_; rintro e wx ⟨rfl, kx⟩; have HKK := Lib.hid kx; clear kx)
            | (go_at_call 13; refine (MI.out _ (And.left (by assumption))).mono ?_; rintro e wx ⟨rfl, kx, _⟩; have HKK := Lib.hid kx; clear kx)
            | (go_at_call 17; refine (EA.out _).mono ?_; rintro e wx ⟨rfl, rfl⟩))
        all_goals
          have KX := Lib.hid (nix_trans K7.out (And.left (by assumption)))
          go_upto_region 10 with fail
          clear CL RS MI EA HB7 HB7t HC7 HT7 K7 hcl
      case' neg =>
        have hck : (chkE r d L == 0) = false := beq_eq_false_iff_ne.2 hchk
        generalize chkE r d L = e0 at *
        clear hchk
        go_upto_region 10 with (first
          | (go_at_call 11; refine CK.mono ?_; rintro e w4 ⟨rfl, k4⟩; have KX := Lib.hid (nix_trans K3.out k4); clear k4 CK))
      all_goals
        have UB := unb_any _ B rt dp cn _ (HVB.out.nix KX.out) HBB.out (by have := HBL.out; omega)
        clear HB3 HC3 HFEW HMB
        by_cases hun : unbE B rt dp cn = 0
        · obtain ⟨L8, hs8, hc8, hb8, hm8⟩ := bytes_unb HBB.out hun
          have HS8 := Lib.hid hs8
          have HC8 := Lib.hid hc8
          have HB8 := Lib.hid hb8
          have HM8 := Lib.hid hm8
          have HUN := Lib.hid hun
          clear hs8 hc8 hb8 hm8 hun
          go_upto_region 13 with (first
            | (go_at_call 19; refine UB.mono ?_; rintro e w8 ⟨R2, D2, tv2, TL2, rfl, k8, hch8, heq2⟩; rw [HS8.out] at heq2; rw [HUN.out]; simp only [Prod.mk.injEq] at heq2; obtain ⟨rfl, rfl, rfl⟩ := heq2; obtain ⟨to2, tcap2, rfl, _⟩ := hch8.open; have HT8 := Lib.hid hch8; have K8 := Lib.hid (nix_trans KX.out k8); clear k8 hch8 UB))
          have k9 : Kept Nix w8 (w8.alloc (.cells #[.int .i64 R2, .int .i64 D2, .slice to2 TL2.length tcap2] 24)) := (Kept.refl _ _).alloc _
          have b9 : (w8.alloc (.cells #[.int .i64 R2, .int .i64 D2, .slice to2 TL2.length tcap2] 24)).heap[w8.heap.size]? = some (.cells #[.int .i64 R2, .int .i64 D2, .slice to2 TL2.length tcap2] 24 (0, 0)) := heap_alloc_new w8 _
          generalize (w8.alloc (.cells #[.int .i64 R2, .int .i64 D2, .slice to2 TL2.length tcap2] 24)) = w9 at *
          have HB9 := Lib.hid b9
          have HT9 := Lib.hid (HT8.out.nix k9)
          have K9 := Lib.hid (nix_trans K8.out k9)
          have y0 : w9.cell? ⟨w8.heap.size, 0, none⟩ = some (.int .i64 R2) := by rw [cell_of b9]; rfl
          have y1 : w9.cell? ⟨w8.heap.size, 1, none⟩ = some (.int .i64 D2) := by rw [cell_of b9]; rfl
          have y2 : w9.cell? ⟨w8.heap.size, 2, none⟩ = some (.slice to2 TL2.length tcap2) := by rw [cell_of b9]; rfl
          have CK2 := check_any R2 D2 _ TL2 w9 HT9.out (by have := HM8.out; have := HBL.out; omega)
          rw [HC8.out] at CK2
          clear k9 b9 K8 HT8 KX
          generalize w8.heap.size = p16 at *
          go_wp2_with (first
            | (go_at_call 11; refine CK2.mono ?_
               rintro e w10 ⟨rfl, k10⟩
               have hb10 := k10.heap HB9.out id
               clear y0 y1 y2 CK2
               have y0 := cell_of (i := 0) hb10
               have y1 := cell_of (i := 1) hb10
               have y2 := cell_of (i := 2) hb10
               have BY2 := bytes_good R2 D2 _ TL2 w10 (HT9.out.nix k10) (by have := HM8.out; have := HBL.out; omega) HC8.out
               rw [HB8.out] at BY2
               have K10 := Lib.hid (nix_trans K9.out k10)
               clear k10 hb10)
            | (go_at_call 23; refine BY2.mono ?_
               rintro e w11 ⟨u2, rfl, hu11, k11⟩
               have K11 := Lib.hid (nix_trans K10.out k11)
               have SM := same_any u2 _ B B w11 hu11 (HVB.out.nix (nix_trans K10.out k11)) (by have := HBL.out; omega)
               rw [decide_eq_true rfl] at SM
               clear hu11 k11 BY2)
            | (go_at_call 22; refine SM.mono ?_; rintro e w12 ⟨rfl, nn, rfl⟩))
          go_ret
          exact ⟨rfl, K11.out.drewN _⟩
        · have hne : (unbE B rt dp cn != 0) = true := bne_iff_ne.2 hun
          have hs8 := unb_bad_len hun
          have HS8 := Lib.hid hs8
          clear hs8 hun
          go_wp2_with (first
            | (go_at_call 19; refine UB.mono ?_; rintro e w8 ⟨R2, D2, tv2, TL2, rfl, k8, hch8, heq2⟩; rw [HS8.out] at heq2; simp only [Prod.mk.injEq] at heq2; obtain ⟨rfl, rfl, rfl⟩ := heq2; obtain ⟨to2, tcap2, rfl, _⟩ := hch8.open; have K8 := Lib.hid (nix_trans KX.out k8); clear k8 hch8 UB; generalize unbE B rt dp cn = ue at *))
          go_ret
          exact ⟨rfl, K8.out.alloc _⟩

end Go.Proofs.Ytpiongdkfebchaa
