/- The reference's Plans: the plans of one width, one behind the other. -/
import Derived.Test.YtliggpidkdiinaaRPtPlans
import Derived.Test.YtliggpidkdiinaaPartOrder
namespace Go.Proofs.Ytliggpidkdiinaa
open Go.RowKit Bx

/-- The plans of one width up to o. -/
def tw (wd skip : Bool) (F o : Nat) : List (Bool × Nat) := if skip = true then [] else (List.range (min o (F + 1))).map (fun i => (wd, i))

theorem tw_zero (wd s : Bool) (F : Nat) : tw wd s F 0 = [] := by cases s <;> simp [tw]
theorem tw_skip (wd : Bool) (F o : Nat) : tw wd true F o = [] := rfl
theorem tw_no {F o : Nat} (wd s : Bool) (h : F < o) : tw wd s F (o + 1) = tw wd s F o := by
  unfold tw
  rw [show min (o + 1) (F + 1) = F + 1 by omega, show min o (F + 1) = F + 1 by omega]
theorem tw_yes {F o : Nat} (wd : Bool) (h : o ≤ F) : tw wd false F (o + 1) = tw wd false F o ++ [(wd, o)] := by
  unfold tw
  rw [show min (o + 1) (F + 1) = o + 1 by omega, show min o (F + 1) = o by omega]
  simp [List.range_succ]
theorem tw_len (wd s : Bool) (F o : Nat) : (tw wd s F o).length ≤ o := by
  unfold tw
  split
  · exact Nat.zero_le _
  · simp; omega

def plF (L : List Int) (k : Nat) (x : Bool × Nat) : List (Int × Bool) := plP L k x.1 x.2

def Rpl2Inv (vl : Value) (L : List Int) (k m : Nat) (wide : Bool) (wn : Nat) (wd : Bool) (T0 : List (Bool × Nat)) (wz : World) (a : Act) (w' : World) : Prop :=
  ∃ (uo : Option Addr) (uc : Nat) (o : Nat), RplA vl k m wide wn (.slice uo (T0 ++ tw wd (wd && !wide) (fin L.length k m) o).length uc) a ∧ o ≤ m + 1 ∧ a.tmps[11]? = some (.int .i64 (o : Int)) ∧
    PlR wz.heap.size w' (.slice uo (T0 ++ tw wd (wd && !wide) (fin L.length k m) o).length uc) (plF L k) (T0 ++ tw wd (wd && !wide) (fin L.length k m) o) ∧ Kept Nix wz w'

theorem PlR.shape {base : Nat} {w : World} {u : Value} {pf : Bool × Nat → List (Int × Bool)} {T : List (Bool × Nat)} (h : PlR base w u pf T) : ∃ uo uc, u = .slice uo T.length uc := by
  obtain ⟨vs, h1, h2, h3⟩ := h
  obtain ⟨uo, uc, e, -⟩ := owns_shape h2
  exact ⟨uo, uc, e⟩

theorem cut_fin {n k m o : Nat} (ho : o ≤ m) (h : cutOk n k o = true) : o ≤ fin n k m := by
  rcases Nat.lt_or_ge (fin n k m) o with hh | hh
  · rw [fin_no hh ho] at h; cases h
  · exact hh
theorem fin_cut {n k m o : Nat} (h0 : 0 < n) (h : cutOk n k o = false) : fin n k m < o := by
  rcases Nat.lt_or_ge (fin n k m) o with hh | hh
  · exact hh
  · rw [cutOk_le (fin_ok h0 m) hh] at h; cases h

set_option maxRecDepth 10000 in
set_option maxHeartbeats 8000000 in
theorem rpl_l2 (vl : Value) (L : List Int) (k m : Nat) (wide : Bool) (wn : Nat) (wd : Bool) (vo : Value) (T0 : List (Bool × Nat)) (a : Act) (wz w : World) (Q : Exit → Act → World → Prop)
    (hh : RplA vl k m wide wn vo a) (h11 : a.tmps[11]? = some (.int .i64 0)) (hv : Sl wz vl (ivs L)) (hk : Kept Nix wz w) (hT : PlR wz.heap.size w vo (plF L k) T0) (hT0 : T0.length ≤ 16)
    (hwn : wn ≤ 1) (hwd : wd = decide (wn = 1)) (hl : L.length ≤ 1048576) (hn : nrs L = true) (h0 : 0 < L.length) (hk32 : k ≤ 1048576) (hm : m ≤ 8)
    (hQ : ∀ a' w' vo', RplA vl k m wide wn vo' a' → PlR wz.heap.size w' vo' (plF L k) (T0 ++ tw wd (wd && !wide) (fin L.length k m) (m + 1)) → Kept Nix wz w' → Q (.exit 2) a' w') : Code.wp Try.prog rplL2 Q a w := by
  obtain ⟨ao, ac, rfl, -⟩ := hv.ints
  have HV := Lib.hid hv
  have HQ := Lib.hid hQ
  have HB := Lib.hid (And.intro hl (And.intro hk32 (And.intro hm hT0)))
  have HNR := Lib.hid hn
  have H0 := Lib.hid h0
  have HWN := Lib.hid (And.intro hwn hwd)
  obtain ⟨uo, uc, rfl⟩ := hT.shape
  refine wp_loop (Rpl2Inv (.slice ao L.length ac) L k m wide wn wd T0 wz) (fun a _ => m + 1 - (intOf (a.tmps.getD 11 undef)).toNat) ?_ ?_
  · refine ⟨uo, uc, 0, ?_, Nat.zero_le _, h11, ?_, hk⟩
    · rw [tw_zero, List.append_nil]; exact hh
    · rw [tw_zero, List.append_nil]; exact hT
  · clear hh h11 hk hT hQ hl hk32 hm hT0 hn h0 hwn hwd hv
    rintro ⟨tm, df⟩ w2 ⟨uo, uc, o, ⟨rfl, hs, e0, e1, e2, e3, e10, e9⟩, ho, e11, hT, hk⟩
    simp only at hs e0 e1 e2 e3 e10 e9 e11
    obtain ⟨f, hf, hg⟩ := fr_open hs
    have g0 := hg _ _ e0
    have g1 := hg _ _ e1
    have g2 := hg _ _ e2
    have g3 := hg _ _ e3
    have g10 := hg _ _ e10
    have g9 := hg _ _ e9
    have g11 := hg _ _ e11
    simp only [List.range, List.range.loop, List.map] at hf
    rw [g0, g1, g2, g3, g10, g9, g11] at hf
    clear g0 g1 g2 g3 g10 g9 g11 hg hs e0 e1 e2 e3 e10 e9 e11
    subst hf
    have HT := Lib.hid hT
    have HK := Lib.hid hk
    clear hT hk
    by_cases hlt : o ≤ m
    · have hdd : decide (o ≤ m) = true := decide_eq_true hlt
      have HO := Lib.hid hlt
      have HW := Lib.hid (show wrap64 ((o : Int) + 1) = ((o + 1 : Nat) : Int) by have := HB.out.2.2.1; rw [w64_in _ (by omega)]; omega)
      have CU := Lib.hid (rcuts_any L.length k o w2 HB.out.1 HB.out.2.1 (by have := HB.out.2.2.1; omega))
      unfold CutsPost at CU
      rw [ctI_nat] at CU
      cases hc : cutOk L.length k o with
      | false =>
        rw [cts_none hc] at CU
        have HE := Lib.hid (show T0 ++ tw wd (wd && !wide) (fin L.length k m) (o + 1) = T0 ++ tw wd (wd && !wide) (fin L.length k m) o by rw [tw_no wd (wd && !wide) (fin_cut (m := m) H0.out hc)])
        clear hc ho hlt
        generalize T0 ++ tw wd (wd && !wide) (fin L.length k m) o = T at *
        go_wp2_with (go_at_call 34; refine CU.out.mono ?_; rintro e w3 ⟨u3, rfl, o3, k3⟩; obtain ⟨vo3, vc3, rfl, -⟩ := owns_shape o3; have K3 := Lib.hid k3; clear o3 k3 CU)
        rw [HW.out]
        refine ⟨⟨uo, uc, o + 1, ?_, by have := HO.out; omega, rfl, ?_, nix_trans HK.out K3.out⟩, nearer (Nat.lt_succ_of_le HO.out) rfl⟩
        · rw [HE.out]; exact ⟨rfl, rfl, rfl, rfl, rfl, rfl, rfl, rfl⟩
        · rw [HE.out]; exact HT.out.kept K3.out
      | true =>
        have hp := Nat.two_pow_pos o
        rw [← cts_length hc] at hp
        have t0 : (((cts L.length k o).length : Int) == 0) = false := by rw [beq_eq_false_iff_ne]; omega
        have HCL := Lib.hid hp
        have HC := Lib.hid hc
        have HF := Lib.hid (cut_fin hlt hc)
        have HTL := Lib.hid (show (T0 ++ tw wd (wd && !wide) (fin L.length k m) o).length ≤ 32 by
          have := tw_len wd (wd && !wide) (fin L.length k m) o
          have := HB.out.2.2.1
          have := HB.out.2.2.2
          rw [List.length_append]
          omega)
        have HSK := Lib.hid (fun (h : (wd && !wide) = true) => show T0 ++ tw wd (wd && !wide) (fin L.length k m) (o + 1) = T0 ++ tw wd (wd && !wide) (fin L.length k m) o by rw [h, tw_skip, tw_skip])
        have HYE := Lib.hid (fun (h : (wd && !wide) = false) => show T0 ++ tw wd (wd && !wide) (fin L.length k m) (o + 1) = (T0 ++ tw wd (wd && !wide) (fin L.length k m) o) ++ [(wd, o)] by rw [h, tw_yes wd HF.out, List.append_assoc])
        have SP := Lib.hid (fun vc w3 w4 (h : Kept Nix wz w3) (hc : Sl w4 vc (ivs (ni (cts L.length k o)))) => rsplit_at L (cts L.length k o) _ vc w3 w4 (HV.out.nix h) hc (cts_sum_le _ _ _) HB.out.1 (cts_length_le _ _ _))
        have FI := Lib.hid (fine_plS HNR.out HB.out.1 k o)
        have hcl := cts_length_le L.length k o
        have hpl : (plS L k o).length = (cts L.length k o).length := pcz_length _ _
        have HPL := Lib.hid (And.intro hcl hpl)
        clear hc ho hlt hp hcl hpl
        generalize hTT : T0 ++ tw wd (wd && !wide) (fin L.length k m) o = T at *
        clear hTT
        generalize hcc : (cts L.length k o).length = cl at *
        clear hcc
        go_upto_region 9 with (go_at_call 34; refine CU.out.mono ?_; rintro e w3 ⟨u3, rfl, o3, k3⟩; obtain ⟨vo3, vc3, rfl, -⟩ := owns_shape o3; have K3 := Lib.hid k3; have O3 := Lib.hid o3; clear o3 k3 CU)
        have hww := HWN.out
        have t1 : ((wn : Int) == 1) = wd := by
          rw [hww.2, Bool.eq_iff_iff]
          simp
          omega
        clear hww
        by_cases hsk : (wd && !wide) = true
        · have HE := Lib.hid (HSK.out hsk)
          have hwd : wd = true := by cases wd <;> simp_all
          have hwi : wide = false := by cases wide <;> simp_all
          clear hsk HSK HYE SP FI HC
          subst hwi
          rw [hwd] at t1
          have HWD := Lib.hid hwd
          clear hwd
          go_wp2
          rw [HW.out]
          refine ⟨⟨uo, uc, o + 1, ?_, by have := HO.out; omega, rfl, ?_, nix_trans HK.out K3.out⟩, nearer (Nat.lt_succ_of_le HO.out) rfl⟩
          · rw [HE.out]; exact ⟨rfl, rfl, rfl, rfl, rfl, rfl, rfl, rfl⟩
          · rw [HE.out]; exact HT.out.kept K3.out
        · have HE := Lib.hid (HYE.out (by simpa using hsk))
          obtain ⟨w4, hw4⟩ : ∃ w4, w4 = w3.alloc (.cells #[.bool wd, .int .i64 (o : Int), .slice none 0 0] 26) := ⟨_, rfl⟩
          have HW4 := Lib.hid hw4
          have H4 := Lib.hid (show w4.heap[w3.heap.size]? = some (.cells #[.bool wd, .int .i64 (o : Int), .slice none 0 0] 26 (0, 0)) by rw [hw4]; exact heap_alloc_new _ _)
          have K4 := Lib.hid (show Kept Nix w3 w4 by rw [hw4]; exact (Kept.refl _ _).alloc _)
          have Z4 := Lib.hid (show w3.heap.size < w4.heap.size by rw [hw4]; simp)
          have S4 := Lib.hid (SP.out _ w3 w4 (nix_trans HK.out K3.out) (sl_of_owns (K4.out.owns O3.out (fun _ _ h => h))))
          have Z3 := Lib.hid K3.out.size
          have M3 := Lib.hid (show T.length + 1 ≤ maxLen by have := HTL.out; simp only [maxLen]; omega)
          have M4 := Lib.hid (show (T.length + 1) * 40 ≤ 140737488355328 by have := HTL.out; omega)
          have hyes : wd = false ∨ (wd = true ∧ wide = true) := by cases wd <;> cases wide <;> simp_all
          clear hsk HSK HYE SP hw4 O3
          rcases hyes with hwd | ⟨hwd, hwi⟩
          all_goals
            rw [hwd] at t1
            (try subst hwi)
            have HWD := Lib.hid hwd
            rw [hwd] at HW4
            clear hwd
            go_upto_region 11 with fail
            rw [← HW4.out]
            clear t0 t1 HW4
            obtain ⟨g13, hg13⟩ : ∃ g13, w3.heap.size = g13 := ⟨_, rfl⟩
            have HG := Lib.hid hg13
            rw [hg13]
            clear hg13
            go_wp2_with (go_at_call 35; refine S4.out.mono ?_; rintro e w5 ⟨u5, rfl, sp5, k5⟩; have K5 := Lib.hid k5; have SP5 := Lib.hid sp5; obtain ⟨ro, rc, rfl, -⟩ := (sp5.chs (nix_trans K4.out k5)).open; clear sp5 k5 S4)
            refine rpl_l3 (.slice ao L.length ac) k m _ wn (.slice uo T.length uc) o g13 ro rc wd L (cts L.length k o) (plS L k o) rfl _ w3 w4 w5 _ ⟨⟨rfl, rfl, rfl, rfl, rfl, rfl, rfl, rfl⟩, rfl, rfl⟩ rfl rfl (by rw [← HG.out]; exact K5.out.heap H4.out id) SP5.out (nix_trans K4.out K5.out) (Nat.le_of_eq HG.out) (by rw [← HG.out]; exact Z4.out) HWN.out.1 HWN.out.2 (by rw [HPL.out.2]; exact HPL.out.1) FI.out ?_
            rintro ⟨tm, df⟩ w6 ⟨⟨⟨rfl, hs, e0, e1, e2, e3, e10, e9⟩, e11, e13⟩, u, hx6, ho6, hk6⟩
            simp only at hs e0 e1 e2 e3 e10 e9 e11 e13
            obtain ⟨f, hf, hg⟩ := fr_open hs
            have g0 := hg _ _ e0
            have g1 := hg _ _ e1
            have g2 := hg _ _ e2
            have g3 := hg _ _ e3
            have g10 := hg _ _ e10
            have g9 := hg _ _ e9
            have g11 := hg _ _ e11
            have g13' := hg _ _ e13
            simp only [List.range, List.range.loop, List.map] at hf
            rw [g0, g1, g2, g3, g10, g9, g11, g13'] at hf
            clear g0 g1 g2 g3 g10 g9 g11 g13' hg hs e0 e1 e2 e3 e10 e9 e11 e13
            subst hf
            obtain ⟨uo6, uc6, rfl, -⟩ := owns_shape ho6
            obtain ⟨x0, x1, x2⟩ := cells_three hx6
            have K26 := Lib.hid ((nix_trans K3.out (nix_trans K4.out K5.out)).trans hk6 (fun _ h => h) (fun j hj h => by have h : j = g13 := h; have := HG.out; have := Z3.out; omega))
            have O6 := Lib.hid (show w6.ownsRow wz.heap.size 39 2 (.slice uo6 (plS L k o).length uc6) (plF L k (wd, o)).length (pcs (plF L k (wd, o))) by
              rw [show (plF L k (wd, o)).length = (plS L k o).length from bps_length _ _]
              exact owns_base ho6 (Nat.le_trans HK.out.size (Nat.le_trans K3.out.size (Nat.le_trans K4.out.size K5.out.size))))
            obtain ⟨vs, hvl, h1, h3⟩ := HT.out
            have HVL := Lib.hid hvl
            have HH1 := Lib.hid h1
            have HH3 := Lib.hid h3
            have O7 := Lib.hid ((K26.out.owns h1 (fun _ _ h => h)).alloc (.cells #[.bool wd, .int .i64 (o : Int), .slice uo6 (plS L k o).length uc6] 26))
            have K7 := Lib.hid (K26.out.alloc (.cells #[.bool wd, .int .i64 (o : Int), .slice uo6 (plS L k o).length uc6] 26))
            have O67 := Lib.hid (O6.out.alloc (.cells #[.bool wd, .int .i64 (o : Int), .slice uo6 (plS L k o).length uc6] 26))
            have HBS := Lib.hid (show wz.heap.size ≤ (w6.alloc (.cells #[.bool wd, .int .i64 (o : Int), .slice uo6 (plS L k o).length uc6] 26)).heap.size from Nat.le_trans HK.out.size K7.out.size)
            clear hx6 ho6 hk6 hvl h1 h3 HT SP5 H4 K4 Z4 K5 FI
            generalize hpn : (plS L k o).length = pn at *
            clear hpn
            go_wp2_with (
              refine wpList_app _ rfl _ _ 54 rfl wz.heap.size 26 (.agg #[.bool false, .int .i64 0, .slice none 0 0]) 3 40 Try.underlying54 info_plan rfl (by decide) _ _ _ rfl O7.out _ 1 1 [.bool wd, .int .i64 (o : Int), .slice uo6 pn uc6] rfl (src_plan w6 _ _ _ _ rfl rfl rfl) M3.out M4.out HBS.out ?_
              intro v8 w8 o8 g8 n8
              have k8 : Kept Nix wz w8 := (nix_trans HK.out K7.out).grown g8 (fun kk hkk => .inr (O7.out.lt kk hkk).1)
              have r8 := PlR.push HVL.out HH1.out HH3.out K7.out O67.out o8 g8
              obtain ⟨vo8, vc8, rfl, -⟩ := owns_shape o8
              have K8 := Lib.hid k8; have R8 := Lib.hid r8; clear k8 r8 o8 g8 n8)
            rw [HW.out]
            refine ⟨⟨vo8, vc8, o + 1, ?_, by have := HO.out; omega, rfl, ?_, K8.out⟩, nearer (Nat.lt_succ_of_le HO.out) rfl⟩
            · rw [HE.out, List.length_append]; exact ⟨rfl, rfl, rfl, rfl, rfl, rfl, rfl, rfl⟩
            · rw [HE.out, List.length_append]; exact R8.out
    · have hoe : o = m + 1 := by omega
      subst hoe
      have hdd : decide (m + 1 ≤ m) = false := decide_eq_false (by omega)
      clear hlt ho
      generalize hm1 : m + 1 = m1 at *
      clear hm1
      go_wp2
      exact HQ.out _ _ _ ⟨rfl, rfl, rfl, rfl, rfl, rfl, rfl, rfl⟩ HT.out HK.out

end Go.Proofs.Ytliggpidkdiinaa
