/- The walk of LagsTwice. -/
import Derived.Test.YtheleifichacjaaAwake09
import Derived.Test.YtheleifichacjaaLagOrd
import Derived.Test.YtheleifichacjaaArgs
namespace Go.Proofs.Ytheleifichacjaa
open Go.RowKit Bx

/-- Twice as far from 0. -/
def dbl (zs : List Int) : List Int := zs.map (fun z => 2 * z)
theorem dbl_length (zs : List Int) : (dbl zs).length = zs.length := by simp [dbl]
theorem dbl_take (zs : List Int) (i : Nat) (h : i < zs.length) : (dbl zs).take (i + 1) = (dbl zs).take i ++ [2 * zs.getD i 0] := by
  have h1 : i < (dbl zs).length := by rw [dbl_length]; exact h
  rw [List.take_succ_eq_append_getElem h1]
  simp [dbl, List.getD, h]
theorem dbl_bd {zs : List Int} (h : Bd 549755813888 zs) : Bd 1099511627776 (dbl zs) := by
  apply bd_of_mem
  intro n hn
  obtain ⟨z, hz, rfl⟩ := List.mem_map.1 hn
  have := h.mem z hz
  omega
theorem bd_39 {zs : List Int} (h : Bd 549755813888 zs) : Bd 1099511627776 zs := by
  apply bd_of_mem
  intro n hn
  have := h.mem n hn
  omega
theorem dbl_fits (s : Nat) (zs : List Int) : Fits (s + 1) (dbl zs) ↔ Fits s zs := by
  unfold Fits
  have e : (2 : Int) ^ (22 + (s + 1)) = 2 * 2 ^ (22 + s) := by rw [← Nat.add_assoc, Int.pow_succ, Int.mul_comm]
  rw [e]
  constructor
  · intro h z hz
    have := h (2 * z) (List.mem_map.2 ⟨z, hz, rfl⟩)
    omega
  · intro h z hz
    obtain ⟨y, hy, rfl⟩ := List.mem_map.1 hz
    have := h y hy
    omega
theorem dbl_fit {zs : List Int} (h : Bd 549755813888 zs) (s : Nat) : fit (dbl zs) ≤ s + 1 ↔ fit zs ≤ s := by
  rw [fit_le _ _ (dbl_bd h), fit_le _ _ (bd_39 h), dbl_fits]
theorem dbl_more {zs : List Int} (h : Bd 549755813888 zs) (hs : 0 < fit zs) : fit (dbl zs) = fit zs + 1 := by
  have h1 := (dbl_fit h (fit zs)).2 (Nat.le_refl _)
  have h2 := dbl_fit h (fit zs - 1)
  omega
theorem dbl_few {zs : List Int} (h : Bd 549755813888 zs) (hs : fit zs = 0) : fit (dbl zs) = 0 ∨ fit (dbl zs) = 1 := by
  have h1 := (dbl_fit h 0).2 (by omega)
  omega
theorem dbl_dv (s : Nat) (zs : List Int) : dv (s + 1) (dbl zs) = dv s zs := by
  unfold dv dbl
  rw [List.map_map]
  apply List.map_congr_left
  intro z _
  simp only [Function.comp]
  rw [Int.pow_succ, Int.mul_comm ((2 : Int) ^ s) 2, Int.mul_ediv_mul_of_pos _ _ (by decide)]
theorem dbl_told {zs : List Int} (h : Bd 549755813888 zs) (hs : 0 < fit zs) (o : Int) : told (dbl zs) o = told zs o := by
  unfold told
  rw [dbl_more h hs, dbl_dv]

theorem bd39_step {zs : List Int} {i : Nat} (h : Bd 549755813888 (zs.take i)) (hi : i < zs.length) (h1 : ¬ zs.getD i 0 < -549755813888) (h2 : ¬ 549755813888 < zs.getD i 0) : Bd 549755813888 (zs.take (i + 1)) := by
  apply bd_of_mem
  rw [List.take_succ_eq_append_getElem hi]
  intro n hn
  rcases List.mem_append.1 hn with hn | hn
  · exact h.mem n hn
  · simp only [List.mem_singleton] at hn
    subst hn
    rw [show zs.getD i 0 = zs[i] by simp [List.getD, hi]] at h1 h2
    omega

def TwInv (v : Value) (zs : List Int) (l o : Nat) (w : World) (a : Act) (w' : World) : Prop :=
  a.defers = [] ∧ a.tmps.size = 77 ∧ a.tmps[0]? = some v ∧ a.tmps[1]? = some (.int .u8 (o : Int)) ∧ a.tmps[5]? = some (.bool true) ∧
  ∃ i : Nat, i ≤ l ∧ a.tmps[7]? = some (.int .i64 (i : Int)) ∧ Bd 549755813888 (zs.take i) ∧ ∃ u, a.tmps[6]? = some u ∧ w'.ownsRow w.heap.size 3 1 u i (ivs ((dbl zs).take i)) ∧ Kept Nix w w'

theorem tw_nums (l i : Nat) (a : Int) (hl : l ≤ 80) (hi : i < l) (h1 : ¬ a < -549755813888) (h2 : ¬ 549755813888 < a) :
    wrap64 ((i : Int) + 1) = ((i + 1 : Nat) : Int) ∧ wrap64 (2 * a) = 2 * a ∧ i + 1 ≤ maxLen ∧ (i + 1) * 8 ≤ 140737488355328 := by
  refine ⟨by unfold wrap64; omega, w64_in _ (by omega), by simp only [maxLen]; omega, by omega⟩

set_option maxHeartbeats 4000000 in
theorem walk_LagsTwice (w : World) (vx : Value) (x : List Int) (hx : Sl w vx (x.map (Value.int .i64))) (_ : ∀ n ∈ x, (Lit.int .i64 n).wf = true) (order : Int) (wo : (Lit.int .u8 order).wf = true) :
    Calls Try.prog 6 #[vx, .int .u8 order] w fun e w' => e = .returned (.bool true) ∧ Kept Nix w w' := by
  have HA := awake_any w
  obtain ⟨xo, xcap, rfl, hxc, -⟩ := hx.ints
  obtain ⟨o, rfl, ho⟩ := nat_u8 wo
  have HX := Lib.hid (sl_ivs hx)
  have HO := Lib.hid ho
  clear hx wo ho hxc
  go_enter Try.func6, Try.ntmps6
  go_upto_region 2 with (go_at_call 9; refine HA.mono ?_; rintro e w1 ⟨rfl, k1⟩; have K1 := Lib.hid k1; clear k1)
  clear HA
  by_cases hlen : 80 < x.length
  · have hd : decide ((80 : Int) < (x.length : Int)) = true := decide_eq_true (by omega)
    clear hlen
    go_wp2
    go_ret
    exact ⟨rfl, K1.out⟩
  have hd : decide ((80 : Int) < (x.length : Int)) = false := decide_eq_false (by omega)
  have HLX := Lib.hid (show x.length ≤ 80 by omega)
  have HN := Lib.hid (World.ownsRow_nil w1 w1.heap.size 3 1)
  have S1 := Lib.hid (HX.out.nix K1.out)
  clear hlen
  generalize hl : x.length = l at *
  have HL := Lib.hid hl
  clear hl
  go_wp2
  clear hd
  refine wp_loop (TwInv (.slice xo l xcap) x l o w1) (fun a _ => l - (intOf (a.tmps.getD 7 undef)).toNat) ?_ ?_
  · exact ⟨rfl, rfl, rfl, rfl, rfl, 0, Nat.zero_le _, rfl, fun i hi => by simp at hi, _, rfl, HN.out, Kept.refl _ _⟩
  · rintro ⟨tm, df⟩ w2 ⟨rfl, hs, h0, h1, h5, i, hi, h7, hbd, u, h6, hou, hkp⟩
    simp only at hs h0 h1 h5 h7 h6
    obtain ⟨f, hf, hg⟩ := fr_open hs
    have e0 := hg _ _ h0
    have e1 := hg _ _ h1
    have e5 := hg _ _ h5
    have e7 := hg _ _ h7
    have e6 := hg _ _ h6
    simp only [List.range, List.range.loop, List.map] at hf
    rw [e0, e1, e5, e7, e6] at hf
    clear e0 e1 e5 e7 e6 hg hs h0 h1 h5 h7 h6
    subst hf
    have HKP := Lib.hid hkp
    have HOU := Lib.hid hou
    have HBD := Lib.hid hbd
    clear hkp hou hbd
    by_cases hlt : i < l
    · have hi1 : (i : Int) < (l : Int) := by omega
      have hdd : decide (i < l) = true := decide_eq_true hlt
      obtain ⟨b1, o1, rfl, hc1⟩ := cell_kept S1.out i (by rw [HL.out]; exact hlt)
      have c1 := hc1 w2 HKP.out
      have c2 := hc1 (w2.alloc (.cells #[.int .i64 (2 * x.getD i 0)] 3)) (HKP.out.alloc _)
      by_cases ha : x.getD i 0 < -549755813888
      · have hda : decide (x.getD i 0 < -549755813888) = true := decide_eq_true ha
        clear ha hlt hi hc1 c2
        generalize x.getD i 0 = xi at *
        go_upto_if 33 with fail
        clear hda
        go_wp2
        go_ret
        exact ⟨rfl, nix_trans K1.out HKP.out⟩
      have hda : decide (x.getD i 0 < -549755813888) = false := decide_eq_false ha
      by_cases hb : 549755813888 < x.getD i 0
      · have hdb : decide (549755813888 < x.getD i 0) = true := decide_eq_true hb
        clear ha hb hlt hi hc1 c2
        generalize x.getD i 0 = xi at *
        go_upto_if 33 with fail
        clear hda hdb
        go_wp2
        go_ret
        exact ⟨rfl, nix_trans K1.out HKP.out⟩
      have hdb : decide (549755813888 < x.getD i 0) = false := decide_eq_false hb
      obtain ⟨n1, n2, n6, n7⟩ := tw_nums l i _ HLX.out hlt ha hb
      have N1 := Lib.hid n1
      have N6 := Lib.hid n6
      have N7 := Lib.hid n7
      have HI := Lib.hid hlt
      have HT := Lib.hid (dbl_take x i (by rw [HL.out]; exact hlt))
      have HST := Lib.hid (bd39_step HBD.out (by rw [HL.out]; exact hlt) ha hb)
      clear n1 n6 n7 ha hb hlt hi hc1 c2
      generalize x.getD i 0 = xi at *
      go_upto_if 33 with fail
      clear hda hdb
      have O5 := Lib.hid (HOU.out.alloc (.cells #[.int .i64 (2 * xi)] 3))
      go_wp2_with (refine wpList_app _ rfl _ _ 22 rfl w1.heap.size 3 (.int .i64 0) 1 8 Try.underlying22 info_int rfl (by decide) u _ _ rfl O5.out _ 1 1 [.int .i64 (2 * xi)] rfl (src_one w2 _ _ rfl) N6.out N7.out (by have := HKP.out.size; simp; omega) ?_; intro v6 w6 o6 g6 n6; have K6 := Lib.hid (show Kept Nix w1 w6 from (HKP.out.alloc _).grown g6 (fun kk hkk => .inr (O5.out.lt kk hkk).1)); have O6 := Lib.hid o6; clear o6 g6 n6)
      rw [N1.out]
      refine ⟨⟨rfl, rfl, rfl, rfl, rfl, i + 1, HI.out, rfl, HST.out, v6, rfl, ?_, K6.out⟩, nearer HI.out rfl⟩
      rw [HT.out, ivs_append]
      exact O6.out
    · have hdd : decide (i < l) = false := decide_eq_false hlt
      have him : i = l := by omega
      subst him
      have hb := HBD.out
      rw [List.take_of_length_le (Nat.le_of_eq HL.out)] at hb
      have ho := HOU.out
      rw [List.take_of_length_le (by rw [dbl_length]; exact Nat.le_of_eq HL.out)] at ho
      obtain ⟨n, n1, n2⟩ := ord_u8 o
      have HB := Lib.hid hb
      have HO2 := Lib.hid ho
      have KX := Lib.hid (nix_trans K1.out HKP.out)
      have F1 := Lib.hid (fit_any _ x w2 (HX.out.nix KX.out) (bd_39 hb))
      have F2 := Lib.hid (fit_any _ (dbl x) w2 (sl_of_owns ho) (dbl_bd hb))
      clear hb ho n2 hlt hi HOU HBD HN S1
      by_cases h0 : fit x = 0
      · have h1 := dbl_few HB.out h0
        rw [h0] at F1
        rcases h1 with h1 | h1
        · rw [h1] at F2
          clear h0 h1
          go_wp2_with (first
            | (go_at_call 11; refine F1.out.mono ?_; rintro e w3 ⟨rfl, rfl⟩; clear F1)
            | (go_at_call 11; refine F2.out.mono ?_; rintro e w4 ⟨rfl, rfl⟩; clear F2))
          go_ret
          exact ⟨rfl, KX.out⟩
        · rw [h1] at F2
          clear h0 h1
          go_wp2_with (first
            | (go_at_call 11; refine F1.out.mono ?_; rintro e w3 ⟨rfl, rfl⟩; clear F1)
            | (go_at_call 11; refine F2.out.mono ?_; rintro e w4 ⟨rfl, rfl⟩; clear F2))
          go_ret
          exact ⟨rfl, KX.out⟩
      · have h1 := dbl_more HB.out (by omega)
        have ht := dbl_told HB.out (by omega) (n : Int)
        rw [h1] at F2
        have hz : (((fit x : Nat) : Int) == 0) = false := beq_false_of_ne (by omega)
        have hz2 : (fit x == 0) = false := beq_false_of_ne h0
        have hw : wrap64 (((fit x : Nat) : Int) + 1) = ((fit x + 1 : Nat) : Int) := by have := fit_top (bd_39 HB.out); unfold wrap64; omega
        have O1 := Lib.hid (of_any _ (dbl x) (n : Int) w2 (sl_of_owns HO2.out) (dbl_bd HB.out) (by rw [dbl_length, HL.out]; have := HLX.out; omega))
        have O2 := Lib.hid (fun w' (k : Kept Nix w2 w') => of_any _ x (n : Int) w' (HX.out.nix (nix_trans KX.out k)) (bd_39 HB.out) (by rw [HL.out]; have := HLX.out; omega))
        have HTL := Lib.hid (show (told x (n : Int)).length < 1099511627776 by rw [told_length]; have := many_top (n : Int); omega)
        unfold OfPost at O1 O2
        rw [ht] at O1
        clear h0 h1 ht
        generalize fit x = s at *
        generalize told x (n : Int) = R at *
        generalize many (n : Int) = lr at *
        generalize hs1 : s + 1 = s1 at *
        clear hs1
        have he : ((s1 : Int) == (s1 : Int)) = true := beq_self_eq_true _
        go_wp2_with (first
          | (go_at_call 11; refine F1.out.mono ?_; rintro e w3 ⟨rfl, rfl⟩; clear F1)
          | (go_at_call 11; refine F2.out.mono ?_; rintro e w4 ⟨rfl, rfl⟩; clear F2)
          | (go_at_call 14; refine O1.out.mono ?_; rintro e w5 ⟨u5, rfl, o5, k5⟩; have K5 := Lib.hid k5; have P5 := Lib.hid (sl_of_owns o5); clear o5 k5 O1)
          | (go_at_call 14; refine (O2.out _ K5.out).mono ?_; rintro e w6 ⟨u6, rfl, o6, k6⟩; have K6 := Lib.hid (nix_trans K5.out k6); have I1 := Lib.hid (ints_eq (P5.out.nix k6) (sl_of_owns o6) HTL.out rfl); clear o6 k6 O2)
          | (go_at_call 13; refine I1.out.mono ?_; rintro e w7 ⟨rfl, nn, rfl⟩; clear I1))
        go_ret
        exact ⟨rfl, nix_trans KX.out (K6.out.drewN nn)⟩

end Go.Proofs.Ytheleifichacjaa
