/- The walk of LpcBack. -/
import Derived.Test.YtkpmofomlplihaaLParts12
namespace Go.Proofs.Ytkpmofomlplihaa
open Go.RowKit Bx

/-- What is wrong: ErrArg just if the predictor is. -/
theorem back_bad {s p : Int} {F x : List Int} (h : ¬ lresE s p F x = 0) : lresL s p F x = [] ∧ ((lresE s p F x == 1) == (lpcE s p F != 0)) = true := by
  refine ⟨by unfold lresL; rw [if_neg h], ?_⟩
  unfold lresE lpcE at *
  cases hb : lpcB s p F with
  | true => simp
  | false =>
    rw [hb] at h
    simp only [Bool.false_eq_true, if_false] at h ⊢
    split
    · decide
    · split
      · decide
      · decide

theorem any_get {L : List Int} (h : L.any wide = false) (i : Nat) (hi : i < L.length) : ¬ 2147483647 < L.getD i 0 ∧ ¬ L.getD i 0 < -2147483647 := by
  have e : L.getD i 0 = L[i] := by simp [List.getD, hi]
  rw [e]
  have := List.any_eq_false.1 h L[i] (List.getElem_mem hi)
  unfold wide at this
  simp only [Bool.or_eq_true, decide_eq_true_eq] at this
  omega

theorem back_good {s p : Int} {F x : List Int} (h : lresE s p F x = 0) (hx : Bd 1099511627776 x) : F.length ≤ x.length ∧ (lresL s p F x).length = x.length - F.length ∧ (∀ i, i < (lresL s p F x).length → ¬ 2147483647 < (lresL s p F x).getD i 0 ∧ ¬ (lresL s p F x).getD i 0 < -2147483647) ∧
    Bd 1099511627776 (lresL s p F x) ∧ lrstE s p F (x.take F.length) = 0 ∧ lrstL s p F (x.take F.length) (lresL s p F x) = x ∧ (∀ i, i < (lresL s p F x).length → Bd 1099511627776 (lrst F s.toNat (x.take F.length) ((lresL s p F x).take i))) := by
  obtain ⟨h1, h2, h3, h4⟩ := lres_inv h
  have hl : (x.take F.length).length = F.length := by rw [List.length_take]; omega
  have hll := lft_length F s.toNat x
  have hE := lrstE_ok h1 hl
  have hg := fun i hi => any_get h3 i hi
  rw [h4]
  refine ⟨h2, hll, hg, ?_, hE, ?_, ?_⟩
  · intro i hi
    have := hg i hi
    omega
  · rw [lrstL_ok _ h1 hl, lrst_all F s.toNat x h2]
  · intro i hi
    rw [lrst_back F s.toNat x h2 i (by omega)]
    exact bd_take hx _

def BackInv (g n l : Nat) (vx va : Value) (L : List Int) (w : World) (a : Act) (w' : World) : Prop :=
  a.defers = [] ∧ a.tmps.size = 105 ∧ a.tmps[0]? = some vx ∧ a.tmps[3]? = some (.pointer (some ⟨g, 0, none⟩)) ∧ a.tmps[5]? = some (.bool true) ∧ a.tmps[7]? = some va ∧ a.tmps[9]? = some (.int .i64 (n : Int)) ∧ ∃ i : Nat, i ≤ l ∧ a.tmps[10]? = some (.int .i64 (i : Int)) ∧ w' = w

theorem step_81 (i l : Nat) (hi : i < l) (hl : l ≤ 80) : wrap64 ((i : Int) + 1) = ((i + 1 : Nat) : Int) ∧ (i : Int) < (l : Int) := ⟨by rw [w64_in _ (by omega)]; omega, by omega⟩

set_option maxRecDepth 10000 in
set_option maxHeartbeats 4000000 in
theorem walk_LpcBack (w : World) (v : Value) (x : List Int) (hx : Sl w v (x.map (Value.int .i64))) (_ : ∀ n ∈ x, (Lit.int .i64 n).wf = true)
    (s p : Int) (_ : (Lit.int .i64 s).wf = true) (_ : (Lit.int .i64 p).wf = true) (u : Value) (F : List Int) (hu : Sl w u (F.map (Value.int .i64))) (_ : ∀ n ∈ F, (Lit.int .i64 n).wf = true) :
    Calls Try.prog 5 #[v, .agg #[.int .i64 s, .int .i64 p, u]] w fun e w' => e = .returned (.bool true) ∧ Kept Nix w w' := by
  have hu' := sl_ivs hu
  have hx' := sl_ivs hx
  obtain ⟨ao, ca, rfl, -⟩ := hu'.ints
  obtain ⟨bo, cb, rfl, hcb, -⟩ := hx'.ints
  have k1 : Kept Nix w (w.alloc (.cells #[.int .i64 s, .int .i64 p, .slice ao F.length ca] 24)) := (Kept.refl _ w).alloc _
  have HB := Lib.hid (fun w' (k : Kept Nix (w.alloc (.cells #[.int .i64 s, .int .i64 p, .slice ao F.length ca] 24)) w') => k.heap (heap_alloc_new w (.cells #[.int .i64 s, .int .i64 p, .slice ao F.length ca] 24)) id)
  have CC := Lib.hid (fun w' k => lpc_cells w s p (.slice ao F.length ca) 24 w' k)
  have HU := Lib.hid (hu'.nix k1)
  have HX := Lib.hid (hx'.nix k1)
  have K1 := Lib.hid k1
  have HCB := Lib.hid hcb
  clear hu hx hu' hx' k1 hcb
  go_enter Try.func5, Try.ntmps5
  go_upto_region 1 with fail
  generalize w.alloc (.cells #[.int .i64 s, .int .i64 p, .slice ao F.length ca] 24) = w1 at *
  generalize w.heap.size = g at *
  have HA := Lib.hid (awake_any w1)
  go_upto_region 3 with (first
    | (go_at_call 10; refine HA.out.mono ?_; rintro e w2 ⟨rfl, k2⟩; have K2 := Lib.hid k2; clear k2 HA; have NR := Lib.hid (rnear_any _ x w2 (HX.out.nix K2.out)))
    | (go_at_call 11; refine NR.out.mono ?_; rintro e w3 ⟨rfl, rfl⟩; clear NR))
  by_cases hlen : 80 < x.length
  · have hd : decide ((80 : Int) < (x.length : Int)) = true := decide_eq_true (by omega)
    clear hlen
    go_wp2
    go_ret
    exact ⟨rfl, nix_trans K1.out K2.out⟩
  have hd : decide ((80 : Int) < (x.length : Int)) = false := decide_eq_false (by omega)
  cases hn : near x with
  | false =>
    clear hlen
    go_wp2
    go_ret
    exact ⟨rfl, nix_trans K1.out K2.out⟩
  | true =>
    obtain ⟨y0, y1, y2⟩ := CC.out _ K2.out
    by_cases hlF : 40 < F.length
    · have hd2 : decide ((40 : Int) < (F.length : Int)) = true := decide_eq_true (by omega)
      clear hlen hlF
      go_wp2
      go_ret
      exact ⟨rfl, nix_trans K1.out K2.out⟩
    have hd2 : decide ((40 : Int) < (F.length : Int)) = false := decide_eq_false (by omega)
    have HNB := Lib.hid (near_bd hn)
    have RS1 := Lib.hid (lres_any s p _ _ F x w3 (HU.out.nix K2.out) (HX.out.nix K2.out) HNB.out (by omega))
    have C1 := Lib.hid (fun w' (k : Kept Nix w3 w') => check_any s p _ F w' (HU.out.nix (nix_trans K2.out k)))
    have HB3 := Lib.hid (fun w' (k : Kept Nix w3 w') => HB.out w' (nix_trans K2.out k))
    have CC3 := Lib.hid (fun w' (k : Kept Nix w3 w') => CC.out w' (nix_trans K2.out k))
    have HLX := Lib.hid (show x.length ≤ 80 by omega)
    have KX := Lib.hid (nix_trans K1.out K2.out)
    clear hlen hlF hn
    unfold LResPost at RS1
    by_cases hE : lresE s p F x = 0
    · obtain ⟨b1, b2, b3, b4, b5, b6, b7⟩ := back_good hE HNB.out
      have RR := Lib.hid (fun u4 w' (k : Kept Nix w3 w') (h4 : Sl w' u4 (ivs (lresL s p F x))) => lrst_any s p _ _ u4 F (x.take F.length) (lresL s p F x) w' (HU.out.nix (nix_trans K2.out k)) (sl_take_i (HX.out.nix (nix_trans K2.out k)) F.length b1) h4 (by have := HLX.out; omega) b4 (fun _ => b7))
      unfold LRstPost at RR
      rw [b5, b6] at RR
      rw [hE, b2] at RS1
      have HG := Lib.hid b3
      rw [b2] at HG
      have HLL := Lib.hid b2
      have hw := w64_in ((x.length : Int) - (F.length : Int)) (by have := HLX.out; omega)
      have hwn : wrap64 ((x.length : Int) - (F.length : Int)) = ((x.length - F.length : Nat) : Int) := by rw [hw]; omega
      have hd3 : decide ((x.length : Int) < (F.length : Int)) = false := decide_eq_false (by omega)
      have hd4 : decide (x.length < F.length) = false := decide_eq_false (by omega)
      have hf1 := fun w => run_upto_i w bo x.length cb F.length (by have := HCB.out; omega)
      have hf2 := fun w => run_upto_i_at w bo x.length cb F.length (by have := HCB.out; omega)
      have HF1 := Lib.hid hf1
      have HF2 := Lib.hid hf2
      have HM80 := Lib.hid (show x.length - F.length ≤ 80 by have := HLX.out; omega)
      clear b1 b2 b3 b4 b5 b6 b7 hE hw hf1 hf2
      generalize lresL s p F x = L at *
      generalize hm : x.length - F.length = m at *
      clear hm
      have hxl : x.length < 1099511627776 := by have := HLX.out; omega
      have HXL := Lib.hid hxl
      clear hxl
      generalize hxe : x.length = l at *
      have HXE := Lib.hid hxe
      clear hxe
      generalize F.length = n at *
      have hmm : ((m : Int) != (m : Int)) = false := bne_self_eq_false _
      go_upto_region 6 with (first
        | (refine wpList_load_row rfl 24 _ rfl g rfl 24 _ (0, 0) _ (HB3.out _ (Kept.refl _ _)) Try.underlying24 rfl size_lpc ?_)
        | (go_at_call 12; refine RS1.out.mono ?_; rintro e w4 ⟨u4, rfl, o4, k4⟩; clear RS1; obtain ⟨uo4, uc4, rfl, -, -⟩ := owns_shape o4; have K4 := Lib.hid k4; have S4 := Lib.hid (sl_of_owns o4); clear k4 o4))
      clear y0 y1 y2
      obtain ⟨y0, y1, y2⟩ := CC3.out _ K4.out
      clear hd hd2
      go_wp2
      clear hmm hwn hd3 hd4
      refine wp_loop (BackInv g n m (.slice bo l cb) (.slice uo4 m uc4) L w4) (fun a _ => m - (intOf (a.tmps.getD 10 undef)).toNat) ?_ ?_
      · exact ⟨rfl, rfl, rfl, rfl, rfl, rfl, rfl, 0, Nat.zero_le _, rfl, rfl⟩
      · clear y0 y1 y2
        rintro ⟨tm, df⟩ w5 ⟨rfl, hs, e0, e3, e5, e7, e9, i, hi, e10, rfl⟩
        simp only at hs e0 e3 e5 e7 e9 e10
        obtain ⟨f, hf, hg⟩ := fr_open hs
        have g0 := hg _ _ e0
        have g3 := hg _ _ e3
        have g5 := hg _ _ e5
        have g7 := hg _ _ e7
        have g9 := hg _ _ e9
        have g10 := hg _ _ e10
        simp only [List.range, List.range.loop, List.map] at hf
        rw [g0, g3, g5, g7, g9, g10] at hf
        clear g0 g3 g5 g7 g9 g10 hg hs e0 e3 e5 e7 e9 e10
        subst hf
        by_cases hlt : i < m
        · obtain ⟨b1, o1, rfl, hc1⟩ := cell_kept S4.out i (by rw [HLL.out]; exact hlt)
          have x1 := hc1 _ (Kept.refl _ _)
          obtain ⟨p1, p2⟩ := HG.out i hlt
          have hda : decide (2147483647 < L.getD i 0) = false := decide_eq_false (by omega)
          have hdb : decide (L.getD i 0 < -2147483647) = false := decide_eq_false (by omega)
          obtain ⟨m1, m2⟩ := step_81 i m hlt HM80.out
          have M1 := Lib.hid m1
          have HI := Lib.hid hlt
          have hdd : decide (i < m) = true := decide_eq_true hlt
          clear hc1 p1 p2 hlt hi m1
          generalize L.getD i 0 = y at *
          go_upto_if 85 with fail
          clear hda hdb
          go_wp2
          rw [M1.out]
          exact ⟨⟨rfl, rfl, rfl, rfl, rfl, rfl, rfl, i + 1, HI.out, rfl, rfl⟩, nearer HI.out rfl⟩
        · have hie : i = m := by omega
          subst hie
          have hdd : decide (i < i) = false := decide_eq_false hlt
          obtain ⟨y0, y1, y2⟩ := CC3.out _ K4.out.drew
          have R2 := Lib.hid (RR.out _ _ K4.out.drew (S4.out.nix ((Kept.refl _ w5).drew)))
          have hf1 := HF1.out
          have hf2 := HF2.out
          clear hlt hi
          go_wp2_with fail
          go_region_law
            (first
              | (go_simp; go_at_call 18; refine R2.out.mono ?_; rintro e w6 ⟨u6, rfl, o6, k6⟩; have K56 := Lib.hid (nix_trans ((Kept.refl Nix w5).drew) k6); have S6 := Lib.hid (sl_of_owns o6); clear k6 o6))
          all_goals
            have K6 := Lib.hid (nix_trans K4.out K56.out)
            have KW := Lib.hid (nix_trans KX.out K6.out)
            have II := Lib.hid (ints_eq S6.out (HX.out.nix (nix_trans K2.out K6.out)) (by rw [HXE.out]; exact HXL.out) rfl)
            clear y0 y1 y2 hf1 hf2 R2
            go_wp2_with (go_at_call 16; refine II.out.mono ?_; rintro e w7 ⟨rfl, n7, rfl⟩; clear II)
            go_ret
            exact ⟨rfl, KW.out.drewN n7⟩
    · obtain ⟨b1, b2⟩ := back_bad hE
      have HD := Lib.hid b2
      rw [b1] at RS1
      simp only [List.length_nil] at RS1
      have hne : (lresE s p F x != 0) = true := bne_iff_ne.2 hE
      clear b1 b2 hE
      generalize lresE s p F x = E at *
      generalize lpcE s p F = D at *
      generalize x.length = l at *
      generalize F.length = n at *
      have hb2 := HD.out
      generalize hq1 : (E == 1) = q1 at *
      generalize hq2 : (D != 0) = q2 at *
      go_wp2_with (first
        | (refine wpList_load_row rfl 24 _ rfl g rfl 24 _ (0, 0) _ (HB3.out _ (Kept.refl _ _)) Try.underlying24 rfl size_lpc ?_)
        | (refine wpList_load_row_w rfl 24 _ rfl g rfl 24 _ (0, 0) _ (HB3.out _ K4.out) Try.underlying24 rfl size_lpc ?_)
        | (go_at_call 12; refine RS1.out.mono ?_; rintro e w4 ⟨u4, rfl, o4, k4⟩; clear RS1; obtain ⟨uo4, uc4, rfl, -, -⟩ := owns_shape o4; have K4 := Lib.hid k4; clear k4 o4)
        | (go_at_call 14; refine (C1.out _ K4.out).mono ?_; rintro e w5 ⟨rfl, k5⟩; have K5 := Lib.hid (nix_trans K4.out k5); clear k5))
      go_ret
      exact ⟨rfl, nix_trans KX.out K5.out⟩

end Go.Proofs.Ytkpmofomlplihaa
