/- The walk of SolveTwice. -/
import Derived.Test.YtdifaaimjiflgaaAwake10
import Derived.Test.YtdifaaimjiflgaaArgs
namespace Go.Proofs.Ytdifaaimjiflgaa
open Go.RowKit Bx

/-- Twice as much. -/
def dbl (zs : List Int) : List Int := zs.map (fun z => 2 * z)
theorem dbl_length (zs : List Int) : (dbl zs).length = zs.length := by simp [dbl]
theorem dbl_get (zs : List Int) (i : Nat) : (dbl zs).getD i 0 = 2 * zs.getD i 0 := by
  by_cases h : i < zs.length
  · simp [dbl, List.getD, h]
  · simp [dbl, List.getD, List.getElem?_eq_none (show zs.length ≤ i by omega)]
theorem dbl_take (zs : List Int) (i : Nat) (h : i < zs.length) : (dbl zs).take (i + 1) = (dbl zs).take i ++ [2 * zs.getD i 0] := by
  have h1 : i < (dbl zs).length := by rw [dbl_length]; exact h
  rw [List.take_succ_eq_append_getElem h1]
  simp [dbl, List.getD, h]
theorem dbl_dv (s : Nat) (zs : List Int) : dv (s + 1) (dbl zs) = dv s zs := by
  unfold dv dbl
  rw [List.map_map]
  apply List.map_congr_left
  intro z _
  simp only [Function.comp]
  rw [Int.pow_succ, Int.mul_comm ((2 : Int) ^ s) 2, Int.mul_ediv_mul_of_pos _ _ (by decide)]

theorem dbl_by {zs : List Int} (h1 : 536870912 ≤ zs.getD 0 0) (h2 : zs.getD 0 0 ≤ 2305843009213693952) : lowBy (dbl zs) = lowBy zs + 1 := by
  unfold lowBy
  rw [dbl_get, Lib.bitLen_half _ (by omega) (by omega), show (2 * zs.getD 0 0 / 1073741824).toNat / 2 = (zs.getD 0 0 / 1073741824).toNat by omega, Nat.add_comm]

theorem dbl_low {zs : List Int} (h1 : 536870912 ≤ zs.getD 0 0) (h2 : zs.getD 0 0 ≤ 2305843009213693952) : low (dbl zs) = low zs := by
  unfold low
  rw [dbl_by h1 h2, dbl_dv]

theorem dbl_sol {zs : List Int} (h1 : 536870912 ≤ zs.getD 0 0) (h2 : zs.getD 0 0 ≤ 2305843009213693952) (o : Int) : sol (dbl zs) o = sol zs o := by
  unfold sol ords
  rw [dbl_low h1 h2, dbl_length, if_neg (by rw [dbl_get]; omega), if_neg (by omega)]

theorem dbl_rt {zs : List Int} (h : Rt zs) (h1 : 536870912 ≤ zs.getD 0 0) (h2 : zs.getD 0 0 ≤ 2305843009213693952) : Rt (dbl zs) := by
  rcases h with rfl | ⟨_, _, h3⟩
  · simp at h1
  · refine .inr ⟨by rw [dbl_get]; omega, by rw [dbl_get]; omega, fun i hi => ?_⟩
    rw [dbl_length] at hi
    have := h3 i hi
    rw [dbl_get, dbl_get]
    omega

def TwInv (v : Value) (zs : List Int) (l o : Nat) (w : World) (a : Act) (w' : World) : Prop :=
  a.defers = [] ∧ a.tmps.size = 62 ∧ a.tmps[0]? = some v ∧ a.tmps[1]? = some (.int .u8 (o : Int)) ∧ a.tmps[5]? = some (.bool true) ∧
  ∃ i : Nat, i ≤ l ∧ a.tmps[8]? = some (.int .i64 (i : Int)) ∧ ∃ u, a.tmps[7]? = some u ∧ w'.ownsRow w.heap.size 3 1 u i (ivs ((dbl zs).take i)) ∧ Kept Nix w w'

theorem tw_nums (l i : Nat) (a : Int) (hl : l ≤ 40) (hi : i < l) (h : -2305843009213693952 ≤ a ∧ a ≤ 2305843009213693952) :
    wrap64 ((i : Int) + 1) = ((i + 1 : Nat) : Int) ∧ wrap64 (2 * a) = 2 * a ∧ i + 1 ≤ maxLen ∧ (i + 1) * 8 ≤ 140737488355328 := by
  refine ⟨by unfold wrap64; omega, w64_in _ (by omega), by simp only [maxLen]; omega, by omega⟩

set_option maxHeartbeats 4000000 in
theorem walk_SolveTwice (w : World) (vx : Value) (x : List Int) (hx : Sl w vx (x.map (Value.int .i64))) (_ : ∀ n ∈ x, (Lit.int .i64 n).wf = true) (order : Int) (wo : (Lit.int .u8 order).wf = true) :
    Calls Try.prog 7 #[vx, .int .u8 order] w fun e w' => e = .returned (.bool true) ∧ Kept Nix w w' := by
  have HA := awake_any w
  obtain ⟨xo, xcap, rfl, hxc, -⟩ := hx.ints
  obtain ⟨o, rfl, ho⟩ := nat_u8 wo
  have HX := Lib.hid (sl_ivs hx)
  have HWO := Lib.hid (show wrap64 (o : Int) = (o : Int) by unfold wrap64; omega)
  clear hx wo ho hxc
  go_enter Try.func7, Try.ntmps7
  go_upto_region 3 with (first
    | (go_at_call 9; refine HA.mono ?_; rintro e w1 ⟨rfl, k1⟩; have K1 := Lib.hid k1; clear k1; have NR := Lib.hid (right_any _ x w1 (HX.out.nix K1.out)))
    | (go_at_call 10; refine NR.out.mono ?_; rintro e w2 ⟨rfl, n2, hw2⟩; have K2 := Lib.hid (show Kept Nix w w2 by rw [hw2]; exact K1.out.drewN n2); clear NR hw2))
  clear HA
  by_cases hlen : 40 < x.length
  · have hd : decide ((40 : Int) < (x.length : Int)) = true := decide_eq_true (by omega)
    clear hlen
    go_wp2
    go_ret
    exact ⟨rfl, K2.out⟩
  have hd : decide ((40 : Int) < (x.length : Int)) = false := decide_eq_false (by omega)
  by_cases h0 : x.length = 0
  · have hd0 : ((x.length : Int) == 0) = true := by rw [h0]; rfl
    clear hlen h0
    go_wp2
    go_ret
    exact ⟨rfl, K2.out⟩
  have hd0 : ((x.length : Int) == 0) = false := beq_false_of_ne (by omega)
  cases hr : rtB x with
  | false =>
    clear hlen h0
    go_wp2
    go_ret
    exact ⟨rfl, K2.out⟩
  | true =>
    have HR := Lib.hid (rt_of hr)
    have HLX := Lib.hid (show x.length ≤ 40 by omega)
    have S2 := Lib.hid (HX.out.nix K2.out)
    obtain ⟨b0, o0, rfl, hc0⟩ := cell_kept S2.out 0 (by omega)
    have c0 := hc0 w2 (Kept.refl _ _)
    rw [Nat.add_zero] at c0
    have hl0 : 0 < x.length := by omega
    have hl0' : (0 : Int) < (x.length : Int) := by omega
    clear hlen hr hc0 h0
    generalize hl : x.length = l at *
    have HL := Lib.hid hl
    clear hl
    generalize hz0 : x.getD 0 0 = z0 at *
    have HZ := Lib.hid hz0
    clear hz0
    by_cases hb1 : z0 < 536870912
    · have t1 : decide (z0 < 536870912) = true := decide_eq_true hb1
      clear hb1
      go_wp2
      go_ret
      exact ⟨rfl, K2.out⟩
    have t1 : decide (z0 < 536870912) = false := decide_eq_false hb1
    by_cases hb2 : 2305843009213693952 < z0
    · have t2 : decide (2305843009213693952 < z0) = true := decide_eq_true hb2
      clear hb1 hb2
      go_wp2
      go_ret
      exact ⟨rfl, K2.out⟩
    have t2 : decide (2305843009213693952 < z0) = false := decide_eq_false hb2
    have HB : Hid (536870912 ≤ z0 ∧ z0 ≤ 2305843009213693952) := Lib.hid (by omega)
    have HEL : Hid (∀ i, i < l → -2305843009213693952 ≤ x.getD i 0 ∧ x.getD i 0 ≤ 2305843009213693952) := Lib.hid (fun i hi => by
      rcases HR.out with h | ⟨_, _, h⟩
      · have := HL.out; rw [h] at this; simp at this; omega
      · have := h i (by rw [HL.out]; exact hi); rw [HZ.out] at this; have := HB.out; omega)
    have HN := Lib.hid (World.ownsRow_nil w2 w2.heap.size 3 1)
    clear hb1 hb2
    go_wp2
    clear t1 t2 hd hd0 c0 hl0 hl0'
    refine wp_loop (TwInv (.slice (some ⟨b0, o0, none⟩) l xcap) x l o w2) (fun a _ => l - (intOf (a.tmps.getD 8 undef)).toNat) ?_ ?_
    · exact ⟨rfl, rfl, rfl, rfl, rfl, 0, Nat.zero_le _, rfl, _, rfl, HN.out, Kept.refl _ _⟩
    · clear HN
      rintro ⟨tm, df⟩ w3 ⟨rfl, hs, h0, h1, h5, i, hi, h8, u, h7, hou, hkp⟩
      simp only at hs h0 h1 h5 h8 h7
      obtain ⟨f, hf, hg⟩ := fr_open hs
      have e0 := hg _ _ h0
      have e1 := hg _ _ h1
      have e5 := hg _ _ h5
      have e8 := hg _ _ h8
      have e7 := hg _ _ h7
      simp only [List.range, List.range.loop, List.map] at hf
      rw [e0, e1, e5, e8, e7] at hf
      clear e0 e1 e5 e8 e7 hg hs h0 h1 h5 h8 h7
      subst hf
      have HKP := Lib.hid hkp
      have HOU := Lib.hid hou
      clear hkp hou
      by_cases hlt : i < l
      · have hi1 : (i : Int) < (l : Int) := by omega
        have hdd : decide (i < l) = true := decide_eq_true hlt
        obtain ⟨b1, o1, he, hc1⟩ := cell_kept S2.out i (by rw [HL.out]; exact hlt)
        simp only [Option.some.injEq, Addr.mk.injEq, and_true] at he
        obtain ⟨rfl, rfl⟩ := he
        have c1 := hc1 w3 HKP.out
        obtain ⟨r1, r2, r3, r4⟩ := tw_nums l i (x.getD i 0) (by have := HLX.out; omega) hlt (HEL.out i hlt)
        have HT := Lib.hid (dbl_take x i (by rw [HL.out]; exact hlt))
        have O4 := Lib.hid (show (w3.alloc (.cells #[.int .i64 (2 * x.getD i 0)] 3)).ownsRow w2.heap.size 3 1 u i (ivs ((dbl x).take i)) from HOU.out.alloc _)
        have HBS := Lib.hid (show w2.heap.size ≤ (w3.alloc (.cells #[.int .i64 (2 * x.getD i 0)] 3)).heap.size by have := HKP.out.size; simp; omega)
        have R1 := Lib.hid r1
        have R3 := Lib.hid r3
        have R4 := Lib.hid r4
        have HI := Lib.hid hlt
        clear hlt hi hc1 r1 r3 r4
        generalize x.getD i 0 = xi at *
        go_wp2_with (refine wpList_app _ rfl _ _ 22 rfl w2.heap.size 3 (.int .i64 0) 1 8 Try.underlying22 info_int rfl (by decide) u _ _ rfl O4.out _ 1 1 [.int .i64 (2 * xi)] rfl (src_one w3 _ _ rfl) R3.out R4.out HBS.out ?_; intro v6 w6 o6 g6 n6; have K6 := Lib.hid (show Kept Nix w2 w6 from (HKP.out.alloc _).grown g6 (fun kk hkk => .inr (O4.out.lt kk hkk).1)); have O6 := Lib.hid o6; clear o6 g6 n6)
        rw [R1.out]
        refine ⟨⟨rfl, rfl, rfl, rfl, rfl, i + 1, HI.out, rfl, v6, rfl, ?_, K6.out⟩, nearer HI.out rfl⟩
        rw [HT.out, ivs_append]
        exact O6.out
      · have hie : i = l := by omega
        subst hie
        have hdd : decide (i < i) = false := decide_eq_false hlt
        have hfull : (dbl x).take i = dbl x := List.take_of_length_le (by rw [dbl_length, HL.out]; exact Nat.le_refl _)
        rw [hfull] at HOU
        have hz1 : 536870912 ≤ x.getD 0 0 := by rw [HZ.out]; exact HB.out.1
        have hz2 : x.getD 0 0 ≤ 2305843009213693952 := by rw [HZ.out]; exact HB.out.2
        have P1 := Lib.hid (solve_any u (dbl x) (o : Int) w3 (sl_of_owns HOU.out) (dbl_rt HR.out hz1 hz2) (by rw [dbl_length, HL.out]; have := HLX.out; omega))
        have P2 := Lib.hid (fun w' (k : Kept Nix w3 w') => solve_any _ x (o : Int) w' (S2.out.nix (nix_trans HKP.out k)) HR.out (by rw [HL.out]; have := HLX.out; omega))
        unfold SolPost at P1 P2
        rw [dbl_sol hz1 hz2] at P1
        generalize sol x (o : Int) = R at *
        clear hlt hi hfull hz1 hz2
        have hwo := HWO.out
        go_wp2_with (first
          | (go_at_call 12; refine P1.out.mono ?_; rintro e w4 ⟨u4, us4, rfl, r4, k4⟩; have K4 := Lib.hid k4; have S4 := Lib.hid r4.chs; clear r4 k4 P1)
          | (go_at_call 12; refine (P2.out _ K4.out).mono ?_; rintro e w5 ⟨u5, us5, rfl, r5, k5⟩; have K5 := Lib.hid (nix_trans K4.out k5); have SM := Lib.hid (same_eq _ _ R w5 (S4.out.nix k5) r5.chs); clear r5 k5 P2)
          | (go_at_call 11; refine SM.out.mono ?_; rintro e w6 ⟨rfl, nn, rfl⟩; clear SM))
        go_ret
        exact ⟨rfl, nix_trans K2.out (nix_trans HKP.out (K5.out.drewN nn))⟩

end Go.Proofs.Ytdifaaimjiflgaa
