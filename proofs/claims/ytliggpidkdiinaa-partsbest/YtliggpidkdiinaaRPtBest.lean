/- The reference's Best of plans. -/
import Derived.Test.YtliggpidkdiinaaRPtPlans
import Derived.Test.YtliggpidkdiinaaRPtBits
import Derived.Test.YtliggpidkdiinaaPartNums
import Derived.Test.YtliggpidkdiinaaCostEq
namespace Go.Proofs.Ytliggpidkdiinaa
open Go.RowKit Bx

theorem plM_pos (wide : Bool) (F : Nat) : 1 ≤ plM wide F := by unfold plM; split <;> omega
theorem plM_le (wide : Bool) {F : Nat} (h : F ≤ 8) : plM wide F ≤ 18 := by unfold plM; split <;> omega
theorem plG_le {wide : Bool} {F i : Nat} (h : i < plM wide F) : (plG F i).2 ≤ F := by
  unfold plM at h
  unfold plG
  split
  · assumption
  · split at h <;> (simp only; omega)
theorem plT_get (F N i : Nat) (h : i < N) : ((List.range N).map (plG F)).getD i (false, 0) = plG F i := by simp [List.getD, h]
theorem plM_last (wide : Bool) (F : Nat) : plM wide F - 1 = if wide = true then 2 * F + 1 else F := by
  unfold plM
  split <;> omega

def RpbInv2 (v : Value) (k : Nat) (vu : Value) (L : List Int) (F N g8 : Nat) (w2 : World) (a : Act) (w' : World) : Prop :=
  a.defers = [] ∧ a.tmps.size = 77 ∧ a.tmps[0]? = some v ∧ a.tmps[1]? = some (.int .i64 (k : Int)) ∧ a.tmps[8]? = some (.pointer (some ⟨g8, 0, none⟩)) ∧ a.tmps[12]? = some vu ∧
  ∃ i : Nat, 1 ≤ i ∧ i ≤ N ∧ a.tmps[14]? = some (.int .i64 (i : Int)) ∧ a.tmps[13]? = some (.int .i64 (upA (plGN L k F) (i - 1) : Int)) ∧ Kept Nix w2 w'

/-- What is told of a plan among them. -/
structure PlAt (L : List Int) (k F : Nat) (v : Value) (b : Nat) (w2 : World) (i : Nat) (uo : Option Addr) (uc : Nat) : Prop where
  cells : ∀ w', Kept Nix w2 w' → w'.cell? ⟨b, i * 3, none⟩ = some (.bool (plG F i).1) ∧ w'.cell? ⟨b, i * 3 + 1, none⟩ = some (.int .i64 ((plG F i).2 : Int)) ∧ w'.cell? ⟨b, i * 3 + 2, none⟩ = some (.slice uo (plF L k (plG F i)).length uc)
  bits : ∀ w', Kept Nix w2 w' → Calls Try.prog 22 #[v, .int .i64 (k : Int), .agg #[.bool (plG F i).1, .int .i64 ((plG F i).2 : Int), .slice uo (plF L k (plG F i)).length uc]] w' fun e w'' => e = .returned (.int .i64 (plGN L k F i : Int)) ∧ Kept Nix w2 w''

set_option maxRecDepth 10000 in
set_option maxHeartbeats 8000000 in
theorem rpbest_any (v : Value) (L : List Int) (order most : Int) (wide : Bool) (w : World) (hv : Sl w v (ivs L)) (hl : L.length ≤ 1048576) :
    Calls Try.prog 10 #[v, .int .i64 order, .int .i64 most, .bool wide] w (PBPost L order most wide w) := by
  obtain ⟨ao, ca, rfl, -⟩ := hv.ints
  obtain ⟨h8, k1⟩ := plan_start w _ rfl
  have H8 := Lib.hid h8
  have K1 := Lib.hid k1
  have WD := Lib.hid (rnears_any _ L _ (hv.nix k1))
  by_cases harg : order < 0 ∨ 32 < order ∨ most < 0 ∨ 8 < most
  · have HP := Lib.hid (fun w' (h : Kept Nix w w') => pb_bad (E := 1) (show pbE L order most = 1 by unfold pbE; rw [if_pos harg]) (by decide) wide h)
    clear hv hl h8 k1 WD
    rcases pb_test harg with t1 | ⟨t1, t2⟩ | ⟨t1, t2, t3⟩ | ⟨t1, t2, t3, t4⟩
    all_goals
      clear harg
      go_enter Try.func10, Try.ntmps10
      go_upto_region 1 with fail
      generalize w.alloc (.cells #[.bool false, .int .i64 0, .slice none 0 0] 26) = w1 at *
      go_wp2_with (refine wpList_store_row rfl 26 _ _ rfl _ _ rfl rfl 26 _ H8.out size_plan rfl (one_plan _ _ _ _ _) ?_)
      exact bodyPost_ret (results_plan2 rfl _ _ w.heap.size _ 0 1 rfl (heap_row _ H8.out) rfl rfl rfl) rfl (HP.out _ (K1.out.setRow (.inr (Nat.le_refl _)) _))
  obtain ⟨k, rfl⟩ : ∃ k : Nat, order = (k : Int) := ⟨order.toNat, by omega⟩
  obtain ⟨m, rfl⟩ : ∃ m : Nat, most = (m : Int) := ⟨most.toNat, by omega⟩
  have t1 : decide ((k : Int) < 0) = false := decide_eq_false (by omega)
  have t2 : decide (32 < (k : Int)) = false := decide_eq_false (by omega)
  have t3 : decide ((m : Int) < 0) = false := decide_eq_false (by omega)
  have t4 : decide (8 < (m : Int)) = false := decide_eq_false (by omega)
  by_cases h0 : L.length = 0
  · have HP := Lib.hid (fun w' (h : Kept Nix w w') => pb_bad (E := 2) (show pbE L (k : Int) (m : Int) = 2 by unfold pbE; rw [if_neg harg, if_pos h0]) (by decide) wide h)
    have t5 : ((L.length : Int) == 0) = true := by simp [h0]
    clear hv hl h8 k1 WD harg h0
    generalize L.length = l at *
    go_enter Try.func10, Try.ntmps10
    go_upto_region 1 with fail
    generalize w.alloc (.cells #[.bool false, .int .i64 0, .slice none 0 0] 26) = w1 at *
    go_wp2_with (refine wpList_store_row rfl 26 _ _ rfl _ _ rfl rfl 26 _ H8.out size_plan rfl (one_plan _ _ _ _ _) ?_)
    exact bodyPost_ret (results_plan2 rfl _ _ w.heap.size _ 0 2 rfl (heap_row _ H8.out) rfl rfl rfl) rfl (HP.out _ (K1.out.setRow (.inr (Nat.le_refl _)) _))
  have t5 : ((L.length : Int) == 0) = false := by rw [beq_eq_false_iff_ne]; omega
  cases hn : nrs L with
  | false =>
    have HP := Lib.hid (fun w' (h : Kept Nix w w') => pb_bad (E := 6) (show pbE L (k : Int) (m : Int) = 6 by unfold pbE; rw [if_neg harg, if_neg h0, if_pos hn]) (by decide) wide h)
    rw [hn] at WD
    clear hv hl h8 k1 harg h0 hn
    generalize L.length = l at *
    go_enter Try.func10, Try.ntmps10
    go_upto_region 1 with fail
    generalize w.alloc (.cells #[.bool false, .int .i64 0, .slice none 0 0] 26) = w1 at *
    go_wp2_with (first
      | (go_at_call 13; refine WD.out.mono ?_; rintro e w2 ⟨rfl, rfl⟩; clear WD)
      | (refine wpList_store_row rfl 26 _ _ rfl _ _ rfl rfl 26 _ H8.out size_plan rfl (one_plan _ _ _ _ _) ?_))
    exact bodyPost_ret (results_plan2 rfl _ _ w.heap.size _ 0 6 rfl (heap_row _ H8.out) rfl rfl rfl) rfl (HP.out _ (K1.out.setRow (.inr (Nat.le_refl _)) _))
  | true =>
    rw [hn] at WD
    have HV := Lib.hid hv
    have HL := Lib.hid hl
    have HNR := Lib.hid hn
    have H0 := Lib.hid (show 0 < L.length by omega)
    have HKM := Lib.hid (show k ≤ 32 ∧ m ≤ 8 by omega)
    have PN := Lib.hid (fun w1 (h : Kept Nix w w1) => rplans_any _ L k m wide w1 (hv.nix h) hl hn (by omega) (by omega) (by omega))
    have TO := Lib.hid (pb_told HKM.out.1 HKM.out.2 H0.out hn wide)
    have BS := Lib.hid (plG_best L k m wide _ rfl)
    have HFC := Lib.hid (fin_ok (k := k) H0.out m)
    have HFM := Lib.hid (fin_le L.length k m)
    clear hv hl h8 k1 harg h0 hn
    generalize fin L.length k m = F at *
    have NM := Lib.hid (And.intro (plM_pos wide F) (plM_le wide (Nat.le_trans HFM.out HKM.out.2)))
    have NL := Lib.hid (plM_last wide F)
    have HGL := Lib.hid (fun i (hi : i < plM wide F) => plG_le hi)
    generalize hN : plM wide F = N at *
    clear hN
    have hTl : ((List.range N).map (plG F)).length = N := by simp
    have HTL := Lib.hid hTl
    clear hTl
    generalize hll : L.length = l at *
    have HLL := Lib.hid hll
    clear hll
    go_enter Try.func10, Try.ntmps10
    go_upto_region 1 with fail
    have Z1 := Lib.hid (show w.heap.size < (w.alloc (.cells #[.bool false, .int .i64 0, .slice none 0 0] 26)).heap.size by simp)
    generalize w.alloc (.cells #[.bool false, .int .i64 0, .slice none 0 0] 26) = w1 at *
    have P1 := Lib.hid (PN.out w1 K1.out)
    clear PN
    generalize hg8 : w.heap.size = g8 at *
    have HG8 := Lib.hid hg8
    clear hg8
    go_upto_region 9 with (first
      | (go_at_call 13; refine WD.out.mono ?_; rintro e w1 ⟨rfl, rfl⟩; clear WD)
      | (go_at_call 21; refine P1.out.mono ?_; rintro e w2 ⟨u2, rfl, r2, k2⟩; have R2 := Lib.hid r2; have K2 := Lib.hid k2; clear r2 k2 P1))
    clear t1 t2 t3 t4 t5
    obtain ⟨b, cap, hu, hat⟩ := R2.out.at (by rw [HTL.out]; exact NM.out.1)
    rw [HTL.out] at hu hat
    subst hu
    have PA := Lib.hid (fun i (hi : i < N) => show ∃ uo uc, PlAt L k F (.slice ao l ca) b w2 i uo uc ∧ ∀ w', Kept Nix w2 w' → w'.ownsRow w1.heap.size 39 2 (.slice uo (plF L k (plG F i)).length uc) (plF L k (plG F i)).length (pcs (plF L k (plG F i))) from by
      obtain ⟨uo, uc, hh⟩ := hat i hi
      simp only [plT_get F N i hi] at hh
      refine ⟨uo, uc, ⟨fun w' h => (hh w' h).1, fun w' h => ?_⟩, fun w' h => (hh w' h).2⟩
      have h1 := HGL.out i hi
      have h2 := HFM.out
      have h3 := HKM.out
      refine (rpbits_any _ L k (plG F i).2 (plG F i).1 _ (plF L k (plG F i)) w' (HV.out.nix (nix_trans K1.out (nix_trans K2.out h))) (pts_of_owns (hh w' h).2) (by rw [HLL.out]; exact HL.out) (by omega) (by omega)).mono ?_
      rintro e w'' ⟨rfl, hk⟩
      refine ⟨?_, nix_trans h hk⟩
      rw [show pbits (pcz L (cts L.length k (plG F i).2)) (plF L k (plG F i)) (wM (plG F i).1) (wA (plG F i).1) = (plGN L k F i : Int) from plN_best k HNR.out (plG F i).1 (plG F i).2 (cutOk_le (by rw [HLL.out]; exact HFC.out) h1)])
    clear hat R2
    go_wp2
    refine wp_loop (RpbInv2 (.slice ao l ca) k (.slice (some ⟨b, 0, none⟩) N cap) L F N g8 w2) (fun a _ => N - (intOf (a.tmps.getD 14 undef)).toNat) ?_ ?_
    · exact ⟨rfl, rfl, rfl, rfl, rfl, rfl, 1, Nat.le_refl _, NM.out.1, rfl, rfl, Kept.refl _ _⟩
    · rintro ⟨tm, df⟩ w3 ⟨rfl, hs, e0, e1, e8, e12, i, hi1, hi2, e14, e13, hk⟩
      simp only at hs e0 e1 e8 e12 e14 e13
      obtain ⟨f, hf, hg⟩ := fr_open hs
      have g0 := hg _ _ e0
      have g1 := hg _ _ e1
      have g8' := hg _ _ e8
      have g12 := hg _ _ e12
      have g14 := hg _ _ e14
      have g13 := hg _ _ e13
      simp only [List.range, List.range.loop, List.map] at hf
      rw [g0, g1, g8', g12, g14, g13] at hf
      clear g0 g1 g8' g12 g14 g13 hg hs e0 e1 e8 e12 e14 e13
      subst hf
      have HK := Lib.hid hk
      clear hk
      have hbl := upA_le (plGN L k F) (i - 1)
      by_cases hlt : i < N
      · obtain ⟨uo1, uc1, pa1, -⟩ := PA.out i hlt
        obtain ⟨uo2, uc2, pa2, -⟩ := PA.out (upA (plGN L k F) (i - 1)) (by omega)
        have C1 := Lib.hid pa1.cells
        have C2 := Lib.hid pa2.cells
        have EI := Lib.hid pa1.bits
        have EA := Lib.hid pa2.bits
        have HI := Lib.hid hlt
        have hdd : decide (i < N) = true := decide_eq_true hlt
        have q1 : (i : Int) < (N : Int) := by omega
        have q2 : (upA (plGN L k F) (i - 1) : Int) < (N : Int) := by omega
        have HW := Lib.hid (show wrap64 ((i : Int) + 1) = ((i + 1 : Nat) : Int) by have := NM.out.2; rw [w64_in _ (by omega)]; omega)
        have HB1 := Lib.hid (show upA (plGN L k F) (i + 1 - 1) = if plGN L k F i < plGN L k F (upA (plGN L k F) (i - 1)) then i else upA (plGN L k F) (i - 1) by
          obtain ⟨i', rfl⟩ : ∃ i', i = i' + 1 := ⟨i - 1, by omega⟩
          simp only [Nat.add_sub_cancel, upA])
        have HM := Lib.hid (show i + 1 ≤ N by omega)
        clear hbl hi1 hi2 hlt PA pa1 pa2
        generalize upA (plGN L k F) (i - 1) = at0 at *
        generalize plGN L k F i = ni at *
        generalize plGN L k F at0 = na at *
        generalize (plF L k (plG F i)).length = ln1 at *
        generalize (plF L k (plG F at0)).length = ln2 at *
        generalize plG F i = pi at *
        generalize plG F at0 = pa at *
        obtain ⟨wi, oi⟩ := pi
        obtain ⟨wa, oa⟩ := pa
        simp only at C1 C2 EI EA
        obtain ⟨c1, c2, c3⟩ := C1.out w3 HK.out
        obtain ⟨d1, d2, d3⟩ := C2.out w3 HK.out
        go_upto_region 13 with fail
        have hlt2 : ∃ t, decide (ni < na) = t := ⟨_, rfl⟩
        obtain ⟨t, ht⟩ := hlt2
        go_region_held3 (fun w' => Kept Nix w2 w' ∧ (w'.cell? ⟨b, i * 3, none⟩ = some (.bool wi) ∧ w'.cell? ⟨b, i * 3 + 1, none⟩ = some (.int .i64 (oi : Int)) ∧ w'.cell? ⟨b, i * 3 + 2, none⟩ = some (.slice uo1 ln1 uc1)) ∧ w'.cell? ⟨b, at0 * 3, none⟩ = some (.bool wa) ∧ w'.cell? ⟨b, at0 * 3 + 1, none⟩ = some (.int .i64 (oa : Int)) ∧ w'.cell? ⟨b, at0 * 3 + 2, none⟩ = some (.slice uo2 ln2 uc2))
          (first | assumption | exact ⟨HK.out.drew, ⟨c1, c2, c3⟩, d1, d2, d3⟩ | exact ⟨HKI.out, C1.out _ HKI.out, C2.out _ HKI.out⟩ | exact ⟨HKA.out, C1.out _ HKA.out, C2.out _ HKA.out⟩)
          (first
            | (go_at_call 22; refine (EI.out _ (And.left (by assumption))).mono ?_; rintro e wx ⟨rfl, kx⟩; have HKI := Lib.hid kx; clear kx EI)
            | (go_at_call 22; refine (EA.out _ (And.left (by assumption))).mono ?_; rintro e wy ⟨rfl, ky⟩; have HKA := Lib.hid ky; clear ky EA))
        have HTT := Lib.hid ht
        have HKA2 := Lib.hid HKA.out
        clear c1 c2 c3 d1 d2 d3 ht hdd q1 q2
        cases t with
        | true =>
          go_wp2
          rw [HW.out]
          refine ⟨⟨rfl, rfl, rfl, rfl, rfl, rfl, i + 1, by omega, HM.out, rfl, ?_, HKA2.out⟩, nearer HI.out rfl⟩
          rw [HB1.out, if_pos (of_decide_eq_true HTT.out)]
          rfl
        | false =>
          go_wp2
          rw [HW.out]
          refine ⟨⟨rfl, rfl, rfl, rfl, rfl, rfl, i + 1, by omega, HM.out, rfl, ?_, HKA2.out⟩, nearer HI.out rfl⟩
          rw [HB1.out, if_neg (of_decide_eq_false HTT.out)]
          rfl
      · have hie : i = N := by omega
        subst hie
        have hdd : decide (i < i) = false := decide_eq_false hlt
        have hbs := BS.out
        rw [← NL.out] at hbs
        obtain ⟨uo2, uc2, pa2, own2⟩ := PA.out (upA (plGN L k F) (i - 1)) (by omega)
        have q2 : (upA (plGN L k F) (i - 1) : Int) < (i : Int) := by omega
        have hgn : ∀ j, plG F j = (bsW L k m wide, bsO L k m wide) → plGN L k F j = plN L k (bsW L k m wide) (bsO L k m wide) := fun j h => by unfold plGN; rw [h]
        have c2 := pa2.cells
        have ea := pa2.bits
        rw [hgn _ hbs] at ea
        clear hbl hi1 hi2 hlt PA pa2 hgn BS NL
        generalize upA (plGN L k F) (i - 1) = at0 at *
        rw [hbs] at c2 ea own2
        rw [show plF L k (bsW L k m wide, bsO L k m wide) = plP L k (bsW L k m wide) (bsO L k m wide) from rfl] at c2 ea own2
        simp only at c2 ea
        obtain ⟨o1, o2, o3, o4, o5⟩ := TO.out
        have HPB := Lib.hid (fun (e : Ending) (w' : World) (u : Value) (h1 : e = .returned (.tuple #[.agg #[.bool (bsW L k m wide), .int .i64 (bsO L k m wide : Int), u], .int .i64 (plN L k (bsW L k m wide) (bsO L k m wide) : Int), .int .i64 0])) (h2 : w'.ownsRow w.heap.size 39 2 u (plP L k (bsW L k m wide) (bsO L k m wide)).length (pcs (plP L k (bsW L k m wide) (bsO L k m wide)))) (h3 : Kept Nix w w') => show PBPost L (k : Int) (m : Int) wide w e w' from ⟨u, by rw [h1, o2, o3, o5, o1], by rw [o4]; exact h2, h3⟩)
        clear hbs o1 o2 o3 o4 o5 TO
        have C2 := Lib.hid c2
        have EA := Lib.hid ea
        have OW := Lib.hid own2
        clear c2 ea own2
        generalize plN L k (bsW L k m wide) (bsO L k m wide) = NN at *
        generalize plP L k (bsW L k m wide) (bsO L k m wide) = PS at *
        generalize bsW L k m wide = W at *
        generalize bsO L k m wide = O at *
        generalize hpn : PS.length = pn at *
        have KW := Lib.hid (nix_trans K1.out K2.out)
        have H3 := Lib.hid (K2.out.heap H8.out id)
        clear hpn
        obtain ⟨d1, d2, d3⟩ := C2.out w3 HK.out
        go_upto_region 15 with fail
        go_region_law
          (first
            | (go_simp; go_at_call 22; refine (EA.out _ HK.out.drew).mono ?_; rintro e w5 ⟨rfl, k5⟩; have K5 := Lib.hid k5; obtain ⟨f1, f2, f3⟩ := C2.out w5 k5; have h5 := k5.heap H3.out id; have y0 := (cell_of (i := 0) h5).trans rfl; have y1 := (cell_of (i := 1) h5).trans rfl; have y2 := (cell_of (i := 2) h5).trans rfl; have z0 := frozen_of (i := 0) h5; have z1 := frozen_of (i := 1) h5; have z2 := frozen_of (i := 2) h5; have H5 := Lib.hid h5; clear k5 EA h5))
        all_goals
          clear d1 d2 d3 f1 f2 f3 y0 y1 y2 z0 z1 z2
          go_wp2
          refine bodyPost_ret (results_plan2 rfl _ _ g8 #[.bool W, .int .i64 (O : Int), .slice uo2 pn uc2] (NN : Int) 0 rfl (heap_set (heap_set (heap_set H5.out))) rfl rfl rfl) rfl (HPB.out _ _ _ rfl ?_ ?_)
          · have ho := OW.out w5 K5.out
            have k8 : Kept (One g8) w5 (((w5.setCell ⟨g8, 0, none⟩ (.bool W)).setCell ⟨g8, 1, none⟩ (.int .i64 (O : Int))).setCell ⟨g8, 2, none⟩ (.slice uo2 pn uc2)) := (((Kept.refl (One g8) w5).setCell (p := ⟨g8, 0, none⟩) (.inl rfl) _).setCell (p := ⟨g8, 1, none⟩) (.inl rfl) _).setCell (p := ⟨g8, 2, none⟩) (.inl rfl) _
            refine owns_base (k8.owns ho (fun kk hkk he => ?_)) K1.out.size
            have h1 := (own_lt ho hkk).1
            have h2 := Z1.out
            have h : kk = g8 := he
            omega
          · exact (((nix_trans KW.out K5.out).setCell (p := ⟨g8, 0, none⟩) (.inr (Nat.le_of_eq HG8.out)) _).setCell (p := ⟨g8, 1, none⟩) (.inr (Nat.le_of_eq HG8.out)) _).setCell (p := ⟨g8, 2, none⟩) (.inr (Nat.le_of_eq HG8.out)) _

end Go.Proofs.Ytliggpidkdiinaa
