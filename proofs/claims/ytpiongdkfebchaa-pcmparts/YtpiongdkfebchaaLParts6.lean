/- The walk of PcmParts. -/
import Derived.Test.YtpiongdkfebchaaLBytes6
import Derived.Test.YtpiongdkfebchaaRefPart6
import Derived.Test.YtpiongdkfebchaaRefJoin6
namespace Go.Proofs.Ytpiongdkfebchaa
open Go.RowKit Bx

theorem few_50 {L : List (List Int)} (h : fewB L = true) : ∀ c ∈ L, c.length ≤ 50 := by
  unfold fewB at h
  rw [Bool.and_eq_true, List.all_eq_true, decide_eq_true_eq] at h
  intro c hc
  have := h.1 c hc
  simpa using this

theorem few_get {L : List (List Int)} (h : ∀ c ∈ L, c.length ≤ 50) (i : Nat) : (L.getD i []).length ≤ 50 := by
  by_cases hi : i < L.length
  · simp only [List.getD, List.getElem?_eq_getElem hi, Option.getD_some]
    exact h _ (List.getElem_mem hi)
  · simp [List.getD, List.getElem?_eq_none (Nat.le_of_not_lt hi)]

/-- No channel of what is joined is long. -/
theorem join_rows {r d r' d' R D : Int} {L M L2 : List (List Int)} (h : (R, D, L2) = joinS r d L r' d' M) (h1 : ∀ c ∈ L, c.length ≤ 50) (h2 : ∀ c ∈ M, c.length ≤ 50) : ∀ z ∈ L2, z.length < 1099511627776 := by
  unfold joinS at h
  split at h
  · simp only [Prod.mk.injEq] at h
    rw [h.2.2]
    intro z hz
    unfold joinL at hz
    obtain ⟨i, _, rfl⟩ := List.mem_map.1 hz
    have a := few_get h1 i
    have b := few_get h2 i
    rw [List.length_append]
    omega
  · simp only [Prod.mk.injEq] at h
    rw [h.2.2]
    simp

theorem part_rows {L : List (List Int)} {f m : Int} (h1 : ∀ c ∈ L, c.length ≤ 50) : ∀ z ∈ partL L f m, z.length < 1099511627776 := by
  intro z hz
  unfold partL at hz
  obtain ⟨c, hc, rfl⟩ := List.mem_map.1 hz
  have := h1 c hc
  rw [List.length_take, List.length_drop]
  omega

theorem rsame_eq {r d : Int} {v v' : Value} {L : List (List Int)} {w : World} (h : Chs w v L) (h' : Chs w v' L) (hb : ∀ c ∈ L, c.length < 1099511627776) :
    Calls Try.prog 21 #[.agg #[.int .i64 r, .int .i64 d, v], .agg #[.int .i64 r, .int .i64 d, v']] w fun e w' => e = .returned (.bool true) ∧ Kept Nix w w' := by
  have := rsame_any r d r d v v' L L w h h' hb
  rwa [sameS_self] at this

theorem parts_start (w : World) (x y : Array Value) : ∀ w', w' = (w.alloc (.cells x 24)).alloc (.cells y 24) → Kept Nix w w' ∧ w'.heap[w.heap.size]? = some (.cells x 24 (0, 0)) ∧ w'.heap[w.heap.size + 1]? = some (.cells y 24 (0, 0)) := by
  rintro w' rfl
  exact ⟨((Kept.refl _ w).alloc _).alloc _, (Below.heap_alloc _ _ _ (by simp)).trans (heap_alloc_new _ _), heap_new (by simp)⟩

set_option maxRecDepth 10000 in
set_option maxHeartbeats 4000000 in
theorem walk_PcmParts (w : World) (r d : Int) (_ : (Lit.int .i64 r).wf = true) (_ : (Lit.int .i64 d).wf = true) (v : Value) (L : List (List Int)) (hch : Chs w v L) (_ : ∀ c ∈ L, ∀ n ∈ c, (Lit.int .i64 n).wf = true)
    (r' d' : Int) (_ : (Lit.int .i64 r').wf = true) (_ : (Lit.int .i64 d').wf = true) (v' : Value) (M : List (List Int)) (hch' : Chs w v' M) (_ : ∀ c ∈ M, ∀ n ∈ c, (Lit.int .i64 n).wf = true)
    (f : Int) (wf : (Lit.int .i64 f).wf = true) (m : Int) (_ : (Lit.int .i64 m).wf = true) :
    Calls Try.prog 5 #[.agg #[.int .i64 r, .int .i64 d, v], .agg #[.int .i64 r', .int .i64 d', v'], .int .i64 f, .int .i64 m] w fun e w' => e = .returned (.bool true) ∧ Kept Nix w w' := by
  obtain ⟨k1, b4, b5⟩ := parts_start w #[.int .i64 r, .int .i64 d, v] #[.int .i64 r', .int .i64 d', v'] _ rfl
  have HA := awake_any ((w.alloc (.cells #[.int .i64 r, .int .i64 d, v] 24)).alloc (.cells #[.int .i64 r', .int .i64 d', v'] 24))
  have HCH := Lib.hid hch
  have HCH' := Lib.hid hch'
  have K1 := Lib.hid k1
  have HB4 := Lib.hid b4
  have HB5 := Lib.hid b5
  have HF := Lib.hid (bounds_i64 wf)
  obtain ⟨ao, cap, rfl, _⟩ := hch.open
  obtain ⟨bo, bcap, rfl, _⟩ := hch'.open
  clear hch hch' k1 b4 b5 wf
  go_enter Try.func5, Try.ntmps5
  go_upto_region 2 with (go_at_call 9; refine HA.mono ?_; rintro e w2 ⟨rfl, k2⟩; have K2 := Lib.hid (nix_trans K1.out k2); have C4 := Lib.hid (k2.heap HB4.out id); have C5 := Lib.hid (k2.heap HB5.out id); clear k2 HA)
  clear HB4 HB5 K1
  have CC := Lib.hid (show ∀ w', Kept Nix w2 w' → (w'.cell? ⟨w.heap.size, 0, none⟩ = some (.int .i64 r) ∧ w'.cell? ⟨w.heap.size, 1, none⟩ = some (.int .i64 d) ∧ w'.cell? ⟨w.heap.size, 2, none⟩ = some (.slice ao L.length cap)) ∧ (w'.cell? ⟨w.heap.size + 1, 0, none⟩ = some (.int .i64 r') ∧ w'.cell? ⟨w.heap.size + 1, 1, none⟩ = some (.int .i64 d') ∧ w'.cell? ⟨w.heap.size + 1, 2, none⟩ = some (.slice bo M.length bcap)) from by
    intro w' hk
    have h4 := hk.heap C4.out id
    have h5 := hk.heap C5.out id
    refine ⟨⟨?_, ?_, ?_⟩, ?_, ?_, ?_⟩ <;> first | (rw [cell_of h4]; rfl) | (rw [cell_of h5]; rfl))
  obtain ⟨⟨y0, y1, y2⟩, y3, y4, y5⟩ := CC.out w2 (Kept.refl _ _)
  have F1 := Lib.hid (rfew_any r d _ L w2 (HCH.out.nix K2.out))
  go_upto_region 3 with (go_at_call 10; refine F1.out.mono ?_; rintro e w3 ⟨rfl, k3⟩; have K3 := Lib.hid k3; clear k3 F1)
  clear y0 y1 y2 y3 y4 y5
  obtain ⟨⟨y0, y1, y2⟩, y3, y4, y5⟩ := CC.out w3 K3.out
  have F2 := Lib.hid (rfew_any r' d' _ M w3 (HCH'.out.nix (nix_trans K2.out K3.out)))
  go_upto_region 4 with (go_at_call 10; refine F2.out.mono ?_; rintro e w4 ⟨rfl, k4⟩; have K4 := Lib.hid (nix_trans K3.out k4); clear k4 F2)
  clear y0 y1 y2 y3 y4 y5 K3
  cases hf1 : fewB L with
  | false =>
    go_wp2
    go_ret
    exact ⟨rfl, nix_trans K2.out K4.out⟩
  | true =>
    cases hf2 : fewB M with
    | false =>
      go_wp2
      go_ret
      exact ⟨rfl, nix_trans K2.out K4.out⟩
    | true =>
      have H50 := Lib.hid (few_50 hf1)
      have H50' := Lib.hid (few_50 hf2)
      have HL10 := Lib.hid (show L.length < 1099511627776 by have := (few_rows hf1).2.2; omega)
      clear hf1 hf2
      obtain ⟨⟨y0, y1, y2⟩, y3, y4, y5⟩ := CC.out w4 K4.out
      have J1 := Lib.hid (join_any r d r' d' _ _ L M w4 (HCH.out.nix (nix_trans K2.out K4.out)) (HCH'.out.nix (nix_trans K2.out K4.out)) HL10.out (fun c hc => Nat.le_trans (H50.out c hc) (by decide)) (fun c hc => Nat.le_trans (H50'.out c hc) (by decide)))
      go_upto_region 7 with (go_at_call 25; refine J1.out.mono ?_; rintro e w5 ⟨R, D, tv, TL, rfl, k5, hc5, heq⟩; obtain ⟨to, tcap, rfl, _⟩ := hc5.open; have HEQ := Lib.hid heq; have HT5 := Lib.hid hc5; have K5 := Lib.hid (nix_trans K4.out k5); clear k5 hc5 heq J1 y0 y1 y2 y3 y4 y5)
      have k6 : Kept Nix w5 (w5.alloc (.cells #[.int .i64 R, .int .i64 D, .slice to TL.length tcap] 24)) := (Kept.refl _ _).alloc _
      have b6 : (w5.alloc (.cells #[.int .i64 R, .int .i64 D, .slice to TL.length tcap] 24)).heap[w5.heap.size]? = some (.cells #[.int .i64 R, .int .i64 D, .slice to TL.length tcap] 24 (0, 0)) := heap_alloc_new w5 _
      generalize (w5.alloc (.cells #[.int .i64 R, .int .i64 D, .slice to TL.length tcap] 24)) = w6 at *
      have K6 := Lib.hid (nix_trans K5.out k6)
      have HT6 := Lib.hid (HT5.out.nix k6)
      have HB6 := Lib.hid b6
      generalize w5.heap.size = p12 at *
      clear k6 b6 HT5 K5
      obtain ⟨⟨y0, y1, y2⟩, y3, y4, y5⟩ := CC.out w6 K6.out
      have J2 := Lib.hid (rjoin_any r d r' d' _ _ L M w6 (HCH.out.nix (nix_trans K2.out K6.out)) (HCH'.out.nix (nix_trans K2.out K6.out)) HL10.out (fun c hc => Nat.le_trans (H50.out c hc) (by decide)) (fun c hc => Nat.le_trans (H50'.out c hc) (by decide)))
      have HROWS := Lib.hid (join_rows HEQ.out H50.out H50'.out)
      go_upto_region 8 with (go_at_call 26; refine J2.out.mono ?_; rintro e w7 ⟨R', D', tv', TL', rfl, k7, hc7, heq⟩; obtain ⟨rfl, rfl, rfl⟩ := sound_eq HEQ.out heq; obtain ⟨to', tcap', rfl, _⟩ := hc7.open; have HT7 := Lib.hid hc7; have K7 := Lib.hid (nix_trans K6.out k7); have HB7 := Lib.hid (k7.heap HB6.out id); have HS7 := Lib.hid (HT6.out.nix k7); clear k7 hc7 J2 heq HT6 HB6 y0 y1 y2 y3 y4 y5)
      have k8 : Kept Nix w7 (w7.alloc (.cells #[.int .i64 R', .int .i64 D', .slice to' TL'.length tcap'] 24)) := (Kept.refl _ _).alloc _
      have b8 : (w7.alloc (.cells #[.int .i64 R', .int .i64 D', .slice to' TL'.length tcap'] 24)).heap[w7.heap.size]? = some (.cells #[.int .i64 R', .int .i64 D', .slice to' TL'.length tcap'] 24 (0, 0)) := heap_alloc_new w7 _
      generalize (w7.alloc (.cells #[.int .i64 R', .int .i64 D', .slice to' TL'.length tcap'] 24)) = w8 at *
      have K8 := Lib.hid (nix_trans K7.out k8)
      have CL := Lib.hid (show ∀ w', Kept Nix w8 w' → (w'.cell? ⟨w.heap.size, 0, none⟩ = some (.int .i64 r) ∧ w'.cell? ⟨w.heap.size, 1, none⟩ = some (.int .i64 d) ∧ w'.cell? ⟨w.heap.size, 2, none⟩ = some (.slice ao L.length cap)) ∧ (w'.cell? ⟨p12, 0, none⟩ = some (.int .i64 R') ∧ w'.cell? ⟨p12, 1, none⟩ = some (.int .i64 D') ∧ w'.cell? ⟨p12, 2, none⟩ = some (.slice to TL'.length tcap)) ∧ (w'.cell? ⟨w7.heap.size, 0, none⟩ = some (.int .i64 R') ∧ w'.cell? ⟨w7.heap.size, 1, none⟩ = some (.int .i64 D') ∧ w'.cell? ⟨w7.heap.size, 2, none⟩ = some (.slice to' TL'.length tcap')) from by
        intro w' hk
        have q := (CC.out w' (nix_trans K8.out hk)).1
        have h4 := hk.heap (k8.heap HB7.out id) id
        have h5 := hk.heap b8 id
        refine ⟨q, ⟨?_, ?_, ?_⟩, ?_, ?_, ?_⟩ <;> first | (rw [cell_of h4]; rfl) | (rw [cell_of h5]; rfl))
      have RS := Lib.hid (fun w' (hk : Kept Nix w8 w') => rsame_eq (r := R') (d := D') ((HS7.out.nix k8).nix hk) ((HT7.out.nix k8).nix hk) HROWS.out)
      have PT := Lib.hid (fun w' (hk : Kept Nix w8 w') => part_any r d _ L f m w' (HCH.out.nix (nix_trans K2.out (nix_trans K8.out hk))) HL10.out (fun c hc => Nat.lt_of_le_of_lt (H50.out c hc) (by decide)))
      have RP := Lib.hid (fun w' (hk : Kept Nix w8 w') => rpart_any r d _ L f m w' (HCH.out.nix (nix_trans K2.out (nix_trans K8.out hk))) HL10.out (fun c hc => Nat.lt_of_le_of_lt (H50.out c hc) (by decide)) (by have := HF.out; omega))
      have HPR := Lib.hid (part_rows (f := f) (m := m) H50.out)
      have hcl := CL.out w8 (Kept.refl _ _)
      generalize joinE r d L.length r' d' M.length = E at *
      have hEE : (E == E) = true := beq_self_eq_true E
      generalize w7.heap.size = p14 at *
      generalize w.heap.size = p4 at *
      clear k8 b8 HB7 HS7 HT7 K6 K7 HROWS HEQ
      go_region_held3 (fun w' => Kept Nix w8 w' ∧ (w'.cell? ⟨p4, 0, none⟩ = some (.int .i64 r) ∧ w'.cell? ⟨p4, 1, none⟩ = some (.int .i64 d) ∧ w'.cell? ⟨p4, 2, none⟩ = some (.slice ao L.length cap)) ∧ (w'.cell? ⟨p12, 0, none⟩ = some (.int .i64 R') ∧ w'.cell? ⟨p12, 1, none⟩ = some (.int .i64 D') ∧ w'.cell? ⟨p12, 2, none⟩ = some (.slice to TL'.length tcap)) ∧ (w'.cell? ⟨p14, 0, none⟩ = some (.int .i64 R') ∧ w'.cell? ⟨p14, 1, none⟩ = some (.int .i64 D') ∧ w'.cell? ⟨p14, 2, none⟩ = some (.slice to' TL'.length tcap')))
        (first | assumption | exact ⟨(Kept.refl _ _).drew, hcl⟩ | exact ⟨HKK.out, CL.out _ HKK.out⟩ | go_keep)
        (first
          | (go_at_call 21; refine (RS.out _ (And.left (by assumption))).mono ?_; rintro e wq ⟨rfl, kq⟩; have HKK := Lib.hid (nix_trans (And.left (by assumption)) kq); clear kq RS)
          | (go_at_call 27; refine (PT.out _ (And.left (by assumption))).mono ?_; rintro e wx ⟨vx, ux, rfl, kx, rx⟩; have HKK := Lib.hid (nix_trans (And.left (by assumption)) kx); have SX := Lib.hid rx.chs; (try have SY2 := Lib.hid (SY.out.nix kx)); clear kx rx)
          | (go_at_call 28; refine (RP.out _ (And.left (by assumption))).mono ?_; rintro e wy ⟨vy, uy, rfl, ky, ry⟩; have HKK := Lib.hid (nix_trans (And.left (by assumption)) ky); have SY := Lib.hid ry.chs; (try have SX2 := Lib.hid (SX.out.nix ky)); clear ky ry)
          | (go_at_call 21; (first | refine (rsame_eq SX2.out SY.out HPR.out).mono ?_ | refine (rsame_eq SX.out SY2.out HPR.out).mono ?_); rintro e wz ⟨rfl, kz⟩; have HKK := Lib.hid (nix_trans (And.left (by assumption)) kz); clear kz))
      all_goals
        go_wp2
        go_ret
        exact ⟨rfl, nix_trans K2.out (nix_trans K8.out HKK.out)⟩

end Go.Proofs.Ytpiongdkfebchaa
