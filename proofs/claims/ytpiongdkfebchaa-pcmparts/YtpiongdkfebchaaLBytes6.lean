/- The walk of PcmBytes. -/
import Derived.Test.YtpiongdkfebchaaLBack6
import Derived.Test.YtpiongdkfebchaaRefBytes6
import Derived.Test.YtpiongdkfebchaaRefUnbW
namespace Go.Proofs.Ytpiongdkfebchaa
open Go.RowKit Bx

/-- No channel of the bytes' sound is long. -/
theorem unb_rows {B : List Nat} {r d c R D : Int} {L : List (List Int)} (h : (R, D, L) = unbSound B r d c) (hl : B.length ≤ 300) : ∀ z ∈ L, z.length < 1099511627776 := by
  unfold unbSound at h
  split at h
  · simp only [Prod.mk.injEq] at h
    rw [h.2.2]
    intro z hz
    unfold unbL gridF at hz
    obtain ⟨i, _, rfl⟩ := List.mem_map.1 hz
    have := Nat.div_le_self B.length (eachN d * c.toNat)
    simp only [List.length_map, List.length_range]
    omega
  · simp only [Prod.mk.injEq] at h
    rw [h.2.2]
    simp

theorem sound_eq {R D R' D' : Int} {L L' : List (List Int)} {x : Int × Int × List (List Int)} (h : (R, D, L) = x) (h' : (R', D', L') = x) : R' = R ∧ D' = D ∧ L' = L := by
  rw [← h] at h'
  simpa using h'

theorem same_eq {va vb : Value} {A : List Nat} {w : World} (ha : Sl w va (u8s A)) (hb : Sl w vb (u8s A)) (hl : A.length < 1099511627776) :
    Calls Try.prog 22 #[va, vb] w fun e w' => e = .returned (.bool true) ∧ Kept Nix w w' := by
  refine (same_any va vb A A w ha hb hl).mono ?_
  rintro e w' ⟨rfl, n, rfl⟩
  exact ⟨by rw [decide_eq_true rfl], (Kept.refl _ w).drewN n⟩

set_option maxRecDepth 10000 in
set_option maxHeartbeats 4000000 in
theorem walk_PcmBytes (w : World) (r d : Int) (_ : (Lit.int .i64 r).wf = true) (_ : (Lit.int .i64 d).wf = true) (v : Value) (L : List (List Int)) (hch : Chs w v L) (_ : ∀ c ∈ L, ∀ n ∈ c, (Lit.int .i64 n).wf = true)
    (vb : Value) (zs : List Int) (hvb : Sl w vb (zs.map (Value.int .u8))) (hzs : ∀ n ∈ zs, (Lit.int .u8 n).wf = true)
    (rt : Int) (_ : (Lit.int .i64 rt).wf = true) (dp : Int) (_ : (Lit.int .i64 dp).wf = true) (cn : Int) (_ : (Lit.int .i64 cn).wf = true) :
    Calls Try.prog 4 #[.agg #[.int .i64 r, .int .i64 d, v], vb, .int .i64 rt, .int .i64 dp, .int .i64 cn] w fun e w' => e = .returned (.bool true) ∧ Kept Nix w w' := by
  obtain ⟨B, hvB, hB, hBz⟩ := hvb.nats hzs
  clear hBz
  have k1 : Kept Nix w (w.alloc (.cells #[.int .i64 r, .int .i64 d, v] 24)) := (Kept.refl _ w).alloc _
  have hb1 : (w.alloc (.cells #[.int .i64 r, .int .i64 d, v] 24)).heap[w.heap.size]? = some (.cells #[.int .i64 r, .int .i64 d, v] 24 (0, 0)) := heap_alloc_new w _
  have HA := awake_any (w.alloc (.cells #[.int .i64 r, .int .i64 d, v] 24))
  have HCH := Lib.hid (hch.nix k1)
  have K1 := Lib.hid k1
  have HB1 := Lib.hid hb1
  have HVB := Lib.hid hvB
  have HBB := Lib.hid hB
  obtain ⟨ao, cap, rfl, _⟩ := hch.open
  obtain ⟨bo, bcap, rfl⟩ := hvB.shape
  clear hch k1 hb1 hvB hB hvb hzs
  go_enter Try.func4, Try.ntmps4
  go_upto_region 3 with (first
    | (go_at_call 9; refine HA.mono ?_; rintro e w2 ⟨rfl, k2⟩; have HB2 := Lib.hid (k2.heap HB1.out id); have HC2 := Lib.hid (HCH.out.nix k2); have K2 := Lib.hid (nix_trans K1.out k2); have y0 := cell_of (i := 0) HB2.out; have y1 := cell_of (i := 1) HB2.out; have y2 := cell_of (i := 2) HB2.out; have HF := rfew_any r d _ L w2 HC2.out; clear k2 HA)
    | (go_at_call 10; refine HF.mono ?_; rintro e w3 ⟨rfl, k3⟩; have HB3 := Lib.hid (k3.heap HB2.out id); have HC3 := Lib.hid (HC2.out.nix k3); have K3 := Lib.hid (nix_trans K2.out k3); clear k3 HF y0 y1 y2))
  cases hf : fewB L with
  | false =>
    go_wp2
    go_ret
    exact ⟨rfl, K3.out⟩
  | true =>
    by_cases hbl : 300 < B.length
    · have hd : decide (300 < (B.length : Int)) = true := decide_eq_true (by omega)
      clear hbl
      go_wp2
      go_ret
      exact ⟨rfl, K3.out⟩
    · have hd : decide (300 < (B.length : Int)) = false := decide_eq_false (by omega)
      have HBL := Lib.hid (show B.length ≤ 300 by omega)
      have HFEW := Lib.hid (few_rows hf)
      clear hbl hf HB1 HB2 HC2 HCH K1 K2
      have UB : Hid (Calls Try.prog 19 #[.slice bo B.length bcap, .int .i64 rt, .int .i64 dp, .int .i64 cn] w3 (UnbPost B rt dp cn w3)) := Lib.hid (unb_any _ B rt dp cn w3 (HVB.out.nix K3.out) HBB.out (by have := HBL.out; omega))
      go_upto_region 6 with (go_at_call 19; refine UB.out.mono ?_; rintro e w4 ⟨R, D, tv, TL, rfl, k4, hc4, heq⟩; obtain ⟨to, tcap, rfl, _⟩ := hc4.open; have HEQ := Lib.hid heq; have HT4 := Lib.hid hc4; have K34 := Lib.hid k4; clear k4 hc4 UB heq)
      have k5 : Kept Nix w4 (w4.alloc (.cells #[.int .i64 R, .int .i64 D, .slice to TL.length tcap] 24)) := (Kept.refl _ _).alloc _
      have b5 : (w4.alloc (.cells #[.int .i64 R, .int .i64 D, .slice to TL.length tcap] 24)).heap[w4.heap.size]? = some (.cells #[.int .i64 R, .int .i64 D, .slice to TL.length tcap] 24 (0, 0)) := heap_alloc_new w4 _
      generalize (w4.alloc (.cells #[.int .i64 R, .int .i64 D, .slice to TL.length tcap] 24)) = w5 at *
      have K35 := Lib.hid (nix_trans K34.out k5)
      have HT5 := Lib.hid (HT4.out.nix k5)
      have HB5 := Lib.hid b5
      generalize w4.heap.size = p13 at *
      clear k5 b5 HT4 K34
      have UR : Hid (Calls Try.prog 20 #[.slice bo B.length bcap, .int .i64 rt, .int .i64 dp, .int .i64 cn] w5 (UnbPost B rt dp cn w5)) := Lib.hid (runb_any _ B rt dp cn w5 (HVB.out.nix (nix_trans K3.out K35.out)) HBB.out HBL.out)
      have HROWS := Lib.hid (unb_rows HEQ.out HBL.out)
      go_upto_region 7 with (go_at_call 20; refine UR.out.mono ?_; rintro e w6 ⟨R', D', tv', TL', rfl, k6, hc6, heq⟩; obtain ⟨rfl, rfl, rfl⟩ := sound_eq HEQ.out heq; obtain ⟨to', tcap', rfl, _⟩ := hc6.open; have HT6 := Lib.hid hc6; have K36 := Lib.hid (nix_trans K35.out k6); have HB6 := Lib.hid (k6.heap HB5.out id); have HS6 := Lib.hid (HT5.out.nix k6); clear k6 hc6 UR heq HT5 HB5)
      have k7 : Kept Nix w6 (w6.alloc (.cells #[.int .i64 R', .int .i64 D', .slice to' TL'.length tcap'] 24)) := (Kept.refl _ _).alloc _
      have b7 : (w6.alloc (.cells #[.int .i64 R', .int .i64 D', .slice to' TL'.length tcap'] 24)).heap[w6.heap.size]? = some (.cells #[.int .i64 R', .int .i64 D', .slice to' TL'.length tcap'] 24 (0, 0)) := heap_alloc_new w6 _
      generalize (w6.alloc (.cells #[.int .i64 R', .int .i64 D', .slice to' TL'.length tcap'] 24)) = w7 at *
      have K37 := Lib.hid (nix_trans K36.out k7)
      have c0 := cell_of (i := 0) (k7.heap HB6.out id)
      have c1 := cell_of (i := 1) (k7.heap HB6.out id)
      have c2 := cell_of (i := 2) (k7.heap HB6.out id)
      have d0 := cell_of (i := 0) b7
      have d1 := cell_of (i := 1) b7
      have d2 := cell_of (i := 2) b7
      have RS := Lib.hid (rsame_any R' D' R' D' _ _ TL' TL' w7 (HS6.out.nix k7) (HT6.out.nix k7) HROWS.out)
      rw [sameS_self] at RS
      generalize w6.heap.size = p15 at *
      generalize unbE B rt dp cn = E at *
      have hEE : (E != E) = false := bne_self_eq_false _
      clear k7 b7 HB6 HS6 HT6 K36 HROWS HEQ
      go_upto_region 9 with (go_at_call 21; refine RS.out.mono ?_; rintro e w8 ⟨rfl, k8⟩; have K8 := Lib.hid (nix_trans (nix_trans K3.out K37.out) k8); have K38 := Lib.hid (nix_trans K37.out k8); clear k8 RS)
      clear c0 c1 c2 d0 d1 d2 hEE hd
      have HB8 := Lib.hid (K38.out.heap HB3.out id)
      have HC8 := Lib.hid (HC3.out.nix K38.out)
      have y0 := cell_of (i := 0) HB8.out
      have y1 := cell_of (i := 1) HB8.out
      have y2 := cell_of (i := 2) HB8.out
      have RC := Lib.hid (rcheck_any r d _ L w8 HC8.out)
      clear HB3 HC3 K37 K38 K35
      go_upto_region 10 with (go_at_call 12; refine RC.out.mono ?_; rintro e w9 ⟨rfl, k9⟩; have K9 := Lib.hid (nix_trans K8.out k9); have HB9 := Lib.hid (k9.heap HB8.out id); have HC9 := Lib.hid (HC8.out.nix k9); clear k9 RC y0 y1 y2)
      by_cases hck : chkE r d L = 0
      · have HCK := Lib.hid hck
        rw [hck]
        have CL := Lib.hid (show ∀ w', Kept Nix w9 w' → w'.cell? ⟨w.heap.size, 0, none⟩ = some (.int .i64 r) ∧ w'.cell? ⟨w.heap.size, 1, none⟩ = some (.int .i64 d) ∧ w'.cell? ⟨w.heap.size, 2, none⟩ = some (.slice ao L.length cap) from by
          intro w' hk
          have hb := hk.heap HB9.out id
          refine ⟨?_, ?_, ?_⟩ <;> (rw [cell_of hb]; rfl))
        have hcl := CL.out w9 (Kept.refl _ _)
        have BY := Lib.hid (fun w' (hk : Kept Nix w9 w') => bytes_good r d _ L w' (HC9.out.nix hk) (Nat.lt_of_le_of_lt HFEW.out.2.1 (by decide)) HCK.out)
        have RB := Lib.hid (fun w' (hk : Kept Nix w9 w') => rbytes_any r d _ L w' (HC9.out.nix hk) HCK.out HFEW.out.2.1)
        have HLB := Lib.hid (show (bytesOf L d).length < 1099511627776 by have := bytes_few (L := L) d HFEW.out.2.1 HFEW.out.2.2; omega)
        generalize bytesOf L d = BL at *
        generalize w.heap.size = p5 at *
        clear hck
        go_region_held3 (fun w' => Kept Nix w9 w' ∧ w'.cell? ⟨p5, 0, none⟩ = some (.int .i64 r) ∧ w'.cell? ⟨p5, 1, none⟩ = some (.int .i64 d) ∧ w'.cell? ⟨p5, 2, none⟩ = some (.slice ao L.length cap))
          (first | assumption | exact ⟨(Kept.refl _ _).drew, hcl⟩ | exact ⟨HKK.out, CL.out _ HKK.out⟩ | go_keep)
          (first
            | (go_at_call 23; refine (BY.out _ (And.left (by assumption))).mono ?_; rintro e wx ⟨ux, rfl, sx, kx⟩; have HKK := Lib.hid (nix_trans (And.left (by assumption)) kx); have SX := Lib.hid sx; (try have SY2 := Lib.hid (SY.out.nix kx)); clear kx sx)
            | (go_at_call 24; refine (RB.out _ (And.left (by assumption))).mono ?_; rintro e wy ⟨uy, rfl, sy, ky⟩; have HKK := Lib.hid (nix_trans (And.left (by assumption)) ky); have SY := Lib.hid sy; (try have SX2 := Lib.hid (SX.out.nix ky)); clear ky sy)
            | (go_at_call 22; (first | refine (same_eq SX2.out SY.out HLB.out).mono ?_ | refine (same_eq SX.out SY2.out HLB.out).mono ?_); rintro e wz ⟨rfl, kz⟩; have HKK := Lib.hid (nix_trans HKK.out kz); clear kz))
        all_goals
          go_wp2
          go_ret
          exact ⟨rfl, nix_trans K9.out HKK.out⟩
      · have hck' : (chkE r d L != 0) = true := bne_iff_ne.2 hck
        have hck2 : (chkE r d L == 0) = false := beq_false_of_ne hck
        clear hck
        generalize chkE r d L = G at *
        go_quiet (fail)
        go_wp2
        go_ret
        exact ⟨rfl, K9.out.drewN _⟩

end Go.Proofs.Ytpiongdkfebchaa
