/- The walk of PcmCuts. -/
import Derived.Test.YtojejanbfeolnaaAwake06
import Derived.Test.YtojejanbfeolnaaLBack6
import Derived.Test.YtojejanbfeolnaaJoinAny
namespace Go.Proofs.Ytojejanbfeolnaa
open Go.RowKit Bx

theorem few50 {L : List (List Int)} (h : fewB L = true) : ∀ c ∈ L, c.length ≤ 50 := by
  unfold fewB at h
  rw [Bool.and_eq_true, List.all_eq_true, decide_eq_true_eq] at h
  intro c hc
  simpa using h.1 c hc

def MV (w : World) (v : Value) (m : Nat) : Prop := ∃ L', Chs w v L' ∧ manyN L' = m
def CV (w : World) (r d : Int) (v : Value) : Prop := ∃ L', Chs w v L' ∧ manyN L' < 1099511627776 ∧ chkE r d L' = 0

theorem cut_nums {at' ms : Nat} (h : ms ≤ 50) : ∃ ma mb : Nat, min at' ms = ma ∧ ms - at' = mb ∧ wrap64 ((ma : Int) + (mb : Int)) = (ms : Int) ∧ IntKind.i64.wrap ((ma : Int) + (mb : Int)) = (ms : Int) ∧ (if (ms : Int) < (at' : Int) then (ms : Int) else (at' : Int)) = (ma : Int) ∧ (if ms < at' then (ms : Int) else (at' : Int)) = (ma : Int) := by
  refine ⟨_, _, rfl, rfl, ?_, ?_, ?_, ?_⟩
  · have e : ((min at' ms : Nat) : Int) + ((ms - at' : Nat) : Int) = (ms : Int) := by omega
    rw [e]
    exact w64_in _ (by omega)
  · rw [IntKind.wrap_i64]
    omega
  · split <;> omega
  · split <;> omega

set_option maxRecDepth 10000 in
set_option maxHeartbeats 4000000 in
theorem walk_PcmCuts (w : World) (r d : Int) (_ : (Lit.int .i64 r).wf = true) (_ : (Lit.int .i64 d).wf = true) (v : Value) (L : List (List Int)) (hch : Chs w v L) (_ : ∀ c ∈ L, ∀ n ∈ c, (Lit.int .i64 n).wf = true)
    (at0 : Int) (wat : (Lit.int .u8 at0).wf = true) :
    Calls Try.prog 7 #[.agg #[.int .i64 r, .int .i64 d, v], .int .u8 at0] w fun e w' => e = .returned (.bool true) ∧ Kept Nix w w' := by
  obtain ⟨at', rfl, hat⟩ := nat_u8 wat
  have k1 : Kept Nix w (w.alloc (.cells #[.int .i64 r, .int .i64 d, v] 24)) := (Kept.refl _ w).alloc _
  have hb1 : (w.alloc (.cells #[.int .i64 r, .int .i64 d, v] 24)).heap[w.heap.size]? = some (.cells #[.int .i64 r, .int .i64 d, v] 24 (0, 0)) := heap_alloc_new w _
  have HA := awake_any (w.alloc (.cells #[.int .i64 r, .int .i64 d, v] 24))
  have HCH := Lib.hid (hch.nix k1)
  have K1 := Lib.hid k1
  have HB1 := Lib.hid hb1
  obtain ⟨ao, cap, rfl, _⟩ := hch.open
  have hwat : wrap64 (at' : Int) = (at' : Int) := w64_in _ (by omega)
  have hwat2 : IntKind.i64.wrap (at' : Int) = (at' : Int) := by rw [IntKind.wrap_i64]; omega
  clear hch k1 hb1 wat hat
  go_enter Try.func7, Try.ntmps7
  go_upto_region 3 with (first
    | (go_at_call 9; refine HA.mono ?_; rintro e w2 ⟨rfl, k2⟩; have HB2 := Lib.hid (k2.heap HB1.out id); have HC2 := Lib.hid (HCH.out.nix k2); have K2 := Lib.hid (nix_trans K1.out k2); have y0 := cell_of (i := 0) HB2.out; have y1 := cell_of (i := 1) HB2.out; have y2 := cell_of (i := 2) HB2.out; have HF := rfew_any r d _ L w2 HC2.out; clear k2 HA)
    | (go_at_call 10; refine HF.mono ?_; rintro e w3 ⟨rfl, k3⟩; have HB3 := Lib.hid (k3.heap HB2.out id); have HC3 := Lib.hid (HC2.out.nix k3); have K3 := Lib.hid (nix_trans K2.out k3); clear k3 HF y0 y1 y2))
  cases hf : fewB L with
  | false =>
    go_wp2
    go_ret
    exact ⟨rfl, K3.out⟩
  | true =>
    have HFEW := Lib.hid (few_rows hf)
    have HF50 := Lib.hid (few50 hf)
    have hz0 : w3.cell? ⟨w.heap.size, 0, none⟩ = some (.int .i64 r) := by rw [cell_of HB3.out]; rfl
    have hz1 : w3.cell? ⟨w.heap.size, 1, none⟩ = some (.int .i64 d) := by rw [cell_of HB3.out]; rfl
    have hz2 : w3.cell? ⟨w.heap.size, 2, none⟩ = some (.slice ao L.length cap) := by rw [cell_of HB3.out]; rfl
    have hl40 : L.length < 1099511627776 := by have := HFEW.out.2.2; omega
    have PA := part_any r d _ L 0 (at' : Int) w3 HC3.out hl40 HFEW.out.1
    clear hf HB1 HB2 HC2 HCH K1 K2
    go_upto_region 7 with (first
      | (go_at_call 27; refine PA.mono ?_; rintro e w4 ⟨va, usa, rfl, k4, hra⟩; obtain ⟨ao4, cap4, rfl, _, _⟩ := owns_shape hra.1; have HRA := Lib.hid hra.chs; have K4 := Lib.hid k4; clear k4 hra PA))
    generalize usa.length = na at *
    have k5 : Kept Nix w3 (w4.alloc (.cells #[.int .i64 r, .int .i64 d, .slice ao4 na cap4] 24)) := K4.out.alloc _
    have b5 : (w4.alloc (.cells #[.int .i64 r, .int .i64 d, .slice ao4 na cap4] 24)).heap[w4.heap.size]? = some (.cells #[.int .i64 r, .int .i64 d, .slice ao4 na cap4] 24 (0, 0)) := heap_alloc_new w4 _
    have HA5 := Lib.hid (HRA.out.nix ((Kept.refl Nix w4).alloc (.cells #[.int .i64 r, .int .i64 d, .slice ao4 na cap4] 24)))
    generalize w4.alloc (.cells #[.int .i64 r, .int .i64 d, .slice ao4 na cap4] 24) = w5 at *
    generalize w4.heap.size = p8 at *
    have K5 := Lib.hid k5
    have B5 := Lib.hid b5
    have HS5 := Lib.hid (k5.heap HB3.out id)
    have HC5 := Lib.hid (HC3.out.nix k5)
    clear hz0 hz1 hz2 k5 b5 HRA K4
    have hz0 : w5.cell? ⟨w.heap.size, 0, none⟩ = some (.int .i64 r) := by rw [cell_of HS5.out]; rfl
    have hz1 : w5.cell? ⟨w.heap.size, 1, none⟩ = some (.int .i64 d) := by rw [cell_of HS5.out]; rfl
    have hz2 : w5.cell? ⟨w.heap.size, 2, none⟩ = some (.slice ao L.length cap) := by rw [cell_of HS5.out]; rfl
    have PB := part_any r d _ L (at' : Int) 1000 w5 HC5.out hl40 HFEW.out.1
    go_upto_region 8 with (first
      | (go_at_call 27; refine PB.mono ?_; rintro e w6 ⟨vb, usb, rfl, k6, hrb⟩; obtain ⟨ao6, cap6, rfl, _, _⟩ := owns_shape hrb.1; have HRB := Lib.hid hrb.chs; have K6 := Lib.hid k6; clear k6 hrb PB))
    generalize usb.length = nb at *
    have k7 : Kept Nix w5 (w6.alloc (.cells #[.int .i64 r, .int .i64 d, .slice ao6 nb cap6] 24)) := K6.out.alloc _
    have b7 : (w6.alloc (.cells #[.int .i64 r, .int .i64 d, .slice ao6 nb cap6] 24)).heap[w6.heap.size]? = some (.cells #[.int .i64 r, .int .i64 d, .slice ao6 nb cap6] 24 (0, 0)) := heap_alloc_new w6 _
    have HT7 := Lib.hid (HRB.out.nix ((Kept.refl Nix w6).alloc (.cells #[.int .i64 r, .int .i64 d, .slice ao6 nb cap6] 24)))
    generalize w6.alloc (.cells #[.int .i64 r, .int .i64 d, .slice ao6 nb cap6] 24) = w7 at *
    generalize w6.heap.size = p9 at *
    have K7 := Lib.hid (nix_trans K5.out k7)
    have B7 := Lib.hid b7
    have A7 := Lib.hid (k7.heap B5.out id)
    have HS7 := Lib.hid (k7.heap HS5.out id)
    have HC7 := Lib.hid (HC5.out.nix k7)
    have HA7 := Lib.hid (HA5.out.nix k7)
    clear hz0 hz1 hz2 k7 b7 HRB K6 HS5 HC5 HA5 B5 K5
    have y0 : w7.cell? ⟨p8, 0, none⟩ = some (.int .i64 r) := by rw [cell_of A7.out]; rfl
    have y1 : w7.cell? ⟨p8, 1, none⟩ = some (.int .i64 d) := by rw [cell_of A7.out]; rfl
    have y2 : w7.cell? ⟨p8, 2, none⟩ = some (.slice ao4 na cap4) := by rw [cell_of A7.out]; rfl
    have y3 : w7.cell? ⟨p9, 0, none⟩ = some (.int .i64 r) := by rw [cell_of B7.out]; rfl
    have y4 : w7.cell? ⟨p9, 1, none⟩ = some (.int .i64 d) := by rw [cell_of B7.out]; rfl
    have y5 : w7.cell? ⟨p9, 2, none⟩ = some (.slice ao6 nb cap6) := by rw [cell_of B7.out]; rfl
    have JO := join_good r d _ _ (partL L 0 (at' : Int)) (partL L (at' : Int) 1000) w7 HA7.out HT7.out (by rw [partL_length, partL_length]) (by rw [partL_length]; exact hl40) (fun c hc => Nat.le_trans (partL_rows HF50.out c hc) (by omega)) (fun c hc => Nat.le_trans (partL_rows HF50.out c hc) (by omega))
    rw [join_parts at' HF50.out] at JO
    go_upto_region 9 with (first
      | (go_at_call 25; refine JO.mono ?_; rintro e w8 ⟨vj, usj, rfl, k8, hrj⟩; obtain ⟨ao8, cap8, rfl, _, _⟩ := owns_shape hrj.1; have HRJ := Lib.hid hrj.chs; have K8 := Lib.hid k8; clear k8 hrj JO))
    generalize usj.length = nj at *
    have k9 : Kept Nix w7 (w8.alloc (.cells #[.int .i64 r, .int .i64 d, .slice ao8 nj cap8] 24)) := K8.out.alloc _
    have b9 : (w8.alloc (.cells #[.int .i64 r, .int .i64 d, .slice ao8 nj cap8] 24)).heap[w8.heap.size]? = some (.cells #[.int .i64 r, .int .i64 d, .slice ao8 nj cap8] 24 (0, 0)) := heap_alloc_new w8 _
    have HJ9 := Lib.hid (HRJ.out.nix ((Kept.refl Nix w8).alloc (.cells #[.int .i64 r, .int .i64 d, .slice ao8 nj cap8] 24)))
    generalize w8.alloc (.cells #[.int .i64 r, .int .i64 d, .slice ao8 nj cap8] 24) = w9 at *
    generalize w8.heap.size = p10 at *
    have K9 := Lib.hid (nix_trans K3.out (nix_trans K7.out k9))
    have J9 := Lib.hid b9
    have A9 := Lib.hid (k9.heap A7.out id)
    have B9 := Lib.hid (k9.heap B7.out id)
    have HS9 := Lib.hid (k9.heap HS7.out id)
    have HC9 := Lib.hid (HC7.out.nix k9)
    have HA9 := Lib.hid (HA7.out.nix k9)
    have HT9 := Lib.hid (HT7.out.nix k9)
    clear y0 y1 y2 y3 y4 y5 k9 b9 HRJ K8 HS7 HC7 HA7 HT7 A7 B7 K7
    have y0 : w9.cell? ⟨p10, 0, none⟩ = some (.int .i64 r) := by rw [cell_of J9.out]; rfl
    have y1 : w9.cell? ⟨p10, 1, none⟩ = some (.int .i64 d) := by rw [cell_of J9.out]; rfl
    have y2 : w9.cell? ⟨p10, 2, none⟩ = some (.slice ao8 nj cap8) := by rw [cell_of J9.out]; rfl
    have y3 : w9.cell? ⟨w.heap.size, 0, none⟩ = some (.int .i64 r) := by rw [cell_of HS9.out]; rfl
    have y4 : w9.cell? ⟨w.heap.size, 1, none⟩ = some (.int .i64 d) := by rw [cell_of HS9.out]; rfl
    have y5 : w9.cell? ⟨w.heap.size, 2, none⟩ = some (.slice ao L.length cap) := by rw [cell_of HS9.out]; rfl
    have RS := rsame_any r d r d _ _ L L w9 HJ9.out HC9.out HFEW.out.1
    rw [sameS_self] at RS
    go_upto_region 11 with (first
      | (go_at_call 21; refine RS.mono ?_; rintro e w10 ⟨rfl, k10⟩; have HS10 := Lib.hid (k10.heap HS9.out id); have A10 := Lib.hid (k10.heap A9.out id); have B10 := Lib.hid (k10.heap B9.out id); have HC10 := Lib.hid (HC9.out.nix k10); have HA10 := Lib.hid (HA9.out.nix k10); have HT10 := Lib.hid (HT9.out.nix k10); have K10 := Lib.hid (nix_trans K9.out k10); clear k10 RS))
    clear y0 y1 y2 y3 y4 y5 HS9 A9 B9 HC9 HA9 HT9 K9 J9 HJ9
    have y3 : w10.cell? ⟨w.heap.size, 0, none⟩ = some (.int .i64 r) := by rw [cell_of HS10.out]; rfl
    have y4 : w10.cell? ⟨w.heap.size, 1, none⟩ = some (.int .i64 d) := by rw [cell_of HS10.out]; rfl
    have y5 : w10.cell? ⟨w.heap.size, 2, none⟩ = some (.slice ao L.length cap) := by rw [cell_of HS10.out]; rfl
    have hM40 : manyN L < 1099511627776 := by have := HFEW.out.2.1; omega
    have CK := check_any r d _ L w10 HC10.out hM40
    by_cases hchk : chkE r d L = 0
    · have HCK := Lib.hid hchk
      rw [hchk] at CK
      clear hchk
      go_upto_region 13 with (first
        | (go_at_call 11; refine CK.mono ?_; rintro e w11 ⟨rfl, k11⟩; have HS11 := Lib.hid (k11.heap HS10.out id); have A11 := Lib.hid (k11.heap A10.out id); have B11 := Lib.hid (k11.heap B10.out id); have HC11 := Lib.hid (HC10.out.nix k11); have HA11 := Lib.hid (HA10.out.nix k11); have HT11 := Lib.hid (HT10.out.nix k11); have K11 := Lib.hid (nix_trans K10.out k11); clear k11 CK))
      clear y3 y4 y5 HS10 A10 B10 HC10 HA10 HT10 K10
      have CL := Lib.hid (show ∀ w', Kept Nix w11 w' → w'.cell? ⟨w.heap.size, 0, none⟩ = some (.int .i64 r) ∧ w'.cell? ⟨w.heap.size, 1, none⟩ = some (.int .i64 d) ∧ w'.cell? ⟨w.heap.size, 2, none⟩ = some (.slice ao L.length cap) ∧ w'.cell? ⟨p8, 0, none⟩ = some (.int .i64 r) ∧ w'.cell? ⟨p8, 1, none⟩ = some (.int .i64 d) ∧ w'.cell? ⟨p8, 2, none⟩ = some (.slice ao4 na cap4) ∧ w'.cell? ⟨p9, 0, none⟩ = some (.int .i64 r) ∧ w'.cell? ⟨p9, 1, none⟩ = some (.int .i64 d) ∧ w'.cell? ⟨p9, 2, none⟩ = some (.slice ao6 nb cap6) from by
        intro w' hk
        have hs := hk.heap HS11.out id
        have ha := hk.heap A11.out id
        have hb := hk.heap B11.out id
        refine ⟨?_, ?_, ?_, ?_, ?_, ?_, ?_, ?_, ?_⟩ <;> first | (rw [cell_of hs]; rfl) | (rw [cell_of ha]; rfl) | (rw [cell_of hb]; rfl))
      have MX := Lib.hid (show ∀ v m, MV w11 v m → ∀ w, Kept Nix w11 w → Calls Try.prog 13 #[.agg #[.int .i64 r, .int .i64 d, v]] w fun e w' => e = .returned (.int .i64 (m : Int)) ∧ Kept Nix w11 w' from by
        rintro v m ⟨L', hL', rfl⟩ wz hk
        exact (many_in w11 r d v L' hL' wz hk).mono fun _ _ ⟨h1, h2, _⟩ => ⟨h1, h2⟩)
      have CX := Lib.hid (show ∀ v, CV w11 r d v → ∀ w, Kept Nix w11 w → Calls Try.prog 11 #[.agg #[.int .i64 r, .int .i64 d, v]] w fun e w' => e = .returned (.int .i64 0) ∧ Kept Nix w11 w' from by
        rintro v ⟨L', hL', hm, hc⟩ wz hk
        have := check_in w11 r d v L' hL' hm wz hk
        rwa [hc] at this)
      have VA : CV w11 r d (.slice ao4 na cap4) := ⟨_, HA11.out, by rw [partL_many]; have := HFEW.out.2.1; omega, chk_part _ _ HCK.out⟩
      have VB : CV w11 r d (.slice ao6 nb cap6) := ⟨_, HT11.out, by rw [partL_many]; have := HFEW.out.2.1; omega, chk_part _ _ HCK.out⟩
      have MS : MV w11 (.slice ao L.length cap) (manyN L) := ⟨L, HC11.out, rfl⟩
      have MA : MV w11 (.slice ao4 na cap4) (min at' (manyN L)) := ⟨_, HA11.out, by rw [partL_many]; simp⟩
      have MB : MV w11 (.slice ao6 nb cap6) (manyN L - at') := ⟨_, HT11.out, by rw [partL_many]; have := HFEW.out.2.1; simp; omega⟩
      have hcl := CL.out w11 (Kept.refl _ _)
      have hms : manyN L ≤ 50 := HFEW.out.2.1
      obtain ⟨ma, mb, hma, hmb, hw1, hw2, hm1, hm2⟩ := cut_nums (at' := at') hms
      rw [hma] at MA
      rw [hmb] at MB
      generalize manyN L = ms at *
      have HHH := Lib.hid (And.intro hma hmb)
      have q2 : ((ms : Int) == (ms : Int)) = true := by simp
      have q3 : ((ma : Int) == (ma : Int)) = true := by simp
      clear hma hmb hms HCK HS11 A11 B11 HC11 HA11 HT11 hM40 HFEW HF50 hl40
      generalize w.heap.size = ps at *
      clear HHH
      go_region_held3 (fun w' => Kept Nix w11 w' ∧ w'.cell? ⟨ps, 0, none⟩ = some (.int .i64 r) ∧ w'.cell? ⟨ps, 1, none⟩ = some (.int .i64 d) ∧ w'.cell? ⟨ps, 2, none⟩ = some (.slice ao L.length cap) ∧ w'.cell? ⟨p8, 0, none⟩ = some (.int .i64 r) ∧ w'.cell? ⟨p8, 1, none⟩ = some (.int .i64 d) ∧ w'.cell? ⟨p8, 2, none⟩ = some (.slice ao4 na cap4) ∧ w'.cell? ⟨p9, 0, none⟩ = some (.int .i64 r) ∧ w'.cell? ⟨p9, 1, none⟩ = some (.int .i64 d) ∧ w'.cell? ⟨p9, 2, none⟩ = some (.slice ao6 nb cap6))
        (first | assumption | exact ⟨(Kept.refl _ _).drew, hcl⟩ | exact ⟨HKK.out, CL.out _ HKK.out⟩ | go_keep)
        (first
          | (go_at_call 11; refine (CX.out _ (by first | exact VA | exact VB) _ (And.left (by assumption))).mono ?_; rintro e wx ⟨rfl, kx⟩; have HKK := Lib.hid kx; clear kx)
          | (go_at_call 13; refine (MX.out _ _ (by first | exact MA | exact MB | exact MS) _ (And.left (by assumption))).mono ?_; rintro e wx ⟨rfl, kx⟩; have HKK := Lib.hid kx; clear kx))
      all_goals
        go_wp2_with fail
        go_ret
        exact ⟨rfl, nix_trans K11.out (And.left (by assumption))⟩
    · have hne : (chkE r d L != 0) = true := bne_iff_ne.2 hchk
      generalize chkE r d L = e0 at *
      clear hchk
      go_wp2_with (first
        | (go_at_call 11; refine CK.mono ?_; rintro e w11 ⟨rfl, k11⟩))
      go_ret
      exact ⟨rfl, nix_trans K10.out k11⟩

end Go.Proofs.Ytojejanbfeolnaa
