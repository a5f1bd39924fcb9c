/- The walk of LagsJoin. -/
import Derived.Test.YtheleifichacjaaAwake09
import Derived.Test.YtheleifichacjaaLagTurn
import Derived.Test.YtheleifichacjaaAppZ
import Derived.Test.YtheleifichacjaaArgs
namespace Go.Proofs.Ytheleifichacjaa
open Go.RowKit Bx

def JoInv (va vb vc : Value) (n : Nat) (w : World) (a : Act) (w' : World) : Prop :=
  a.defers = [] ∧ a.tmps.size = 104 ∧ a.tmps[7]? = some (.bool true) ∧ a.tmps[12]? = some (.int .i64 (n : Int)) ∧ a.tmps[13]? = some va ∧ a.tmps[14]? = some vb ∧ a.tmps[15]? = some vc ∧
  ∃ k : Nat, k ≤ n + 1 ∧ a.tmps[16]? = some (.int .i64 (k : Int)) ∧ ∃ nn, w' = w.drewN nn

theorem told_bd {x : List Int} (h : Bd 1099511627776 x) (hl : x.length ≤ 65535) (o : Int) (k : Nat) : -1152921504606846976 ≤ (told x o).getD k 0 ∧ (told x o).getD k 0 ≤ 1152921504606846976 := by
  by_cases hk : k < many o
  · unfold told
    rw [lags_get _ _ _ hk]
    exact part_bd (dv_bd h) k _ (by rw [dv_length]; omega)
  · rw [getD_out _ _ (by rw [told_length]; omega)]
    omega

set_option maxHeartbeats 4000000 in
theorem walk_LagsJoin (w : World) (vx : Value) (x : List Int) (hx : Sl w vx (x.map (Value.int .i64))) (_ : ∀ n ∈ x, (Lit.int .i64 n).wf = true) (vy : Value) (y : List Int) (hy : Sl w vy (y.map (Value.int .i64))) (_ : ∀ n ∈ y, (Lit.int .i64 n).wf = true) (order : Int) (wo : (Lit.int .u8 order).wf = true) :
    Calls Try.prog 8 #[vx, vy, .int .u8 order] w fun e w' => e = .returned (.bool true) ∧ Kept Nix w w' := by
  have HA := awake_any w
  obtain ⟨xo, xcap, rfl, hxc, -⟩ := hx.ints
  obtain ⟨yo, ycap, rfl, hyc, -⟩ := hy.ints
  obtain ⟨o, rfl, ho⟩ := nat_u8 wo
  have HX := Lib.hid (sl_ivs hx)
  have HY := Lib.hid (sl_ivs hy)
  have HO := Lib.hid ho
  clear hx hy wo ho hxc hyc
  go_enter Try.func8, Try.ntmps8
  go_upto_region 4 with (first
    | (go_at_call 9; refine HA.mono ?_; rintro e w1 ⟨rfl, k1⟩; have K1 := Lib.hid k1; clear k1; have NX := Lib.hid (rnear_any _ x w1 (HX.out.nix K1.out)); have NY := Lib.hid (rnear_any _ y w1 (HY.out.nix K1.out)))
    | (go_at_call 10; refine NX.out.mono ?_; rintro e w2 ⟨rfl, rfl⟩; clear NX)
    | (go_at_call 10; refine NY.out.mono ?_; rintro e w3 ⟨rfl, rfl⟩; clear NY))
  clear HA
  by_cases hlx : 40 < x.length
  · have hd : decide ((40 : Int) < (x.length : Int)) = true := decide_eq_true (by omega)
    clear hlx
    go_upto_if 37 with fail
    clear hd
    go_wp2
    go_ret
    exact ⟨rfl, K1.out⟩
  have hd : decide ((40 : Int) < (x.length : Int)) = false := decide_eq_false (by omega)
  by_cases hly : 40 < y.length
  · have hd2 : decide ((40 : Int) < (y.length : Int)) = true := decide_eq_true (by omega)
    clear hlx hly
    go_upto_if 37 with fail
    clear hd hd2
    go_wp2
    go_ret
    exact ⟨rfl, K1.out⟩
  have hd2 : decide ((40 : Int) < (y.length : Int)) = false := decide_eq_false (by omega)
  cases hn : near x with
  | false =>
    clear hlx hly
    go_upto_if 37 with fail
    clear hd hd2
    go_wp2
    go_ret
    exact ⟨rfl, K1.out⟩
  | true =>
  cases hn2 : near y with
  | false =>
    clear hlx hly hn
    go_upto_if 37 with fail
    clear hd hd2
    go_wp2
    go_ret
    exact ⟨rfl, K1.out⟩
  | true =>
    have HB := Lib.hid (near_bd hn)
    have HC := Lib.hid (near_bd hn2)
    have HLX := Lib.hid (show x.length ≤ 40 by omega)
    have HLY := Lib.hid (show y.length ≤ 40 by omega)
    clear hlx hly hn hn2
    go_upto_if 37 with fail
    clear hd hd2
    have F1 := Lib.hid (fit_any _ x w3 (HX.out.nix K1.out) HB.out)
    have F2 := Lib.hid (fit_any _ y w3 (HY.out.nix K1.out) HC.out)
    by_cases hf : fit x = fit y
    · have HF := Lib.hid hf
      rw [hf] at F1
      have hne : (((fit y : Nat) : Int) != ((fit y : Nat) : Int)) = false := bne_self_eq_false _
      have hne2 : (fit y != fit y) = false := bne_self_eq_false _
      obtain ⟨n, n1, n2⟩ := ord_u8 o
      have HN := Lib.hid n2
      clear hf n2
      have hmn : many (n : Int) = n + 1 := by rw [many_nat]; omega
      have A1 := Lib.hid (of_any _ x (n : Int) w3 (HX.out.nix K1.out) HB.out (by have := HLX.out; omega))
      have A2 := Lib.hid (fun w' (k : Kept Nix w3 w') => of_any _ y (n : Int) w' (HY.out.nix (nix_trans K1.out k)) HC.out (by have := HLY.out; omega))
      have A3 := Lib.hid (fun v w' (s : Sl w' v (ivs (joinz x n y))) => of_any v (joinz x n y) (n : Int) w' s (bd_joinz HB.out HC.out n) (by rw [joinz_length]; have := HLX.out; have := HLY.out; have := HN.out; omega))
      have HJ := Lib.hid (fun k (hk : k ≤ n) => told_joinz HB.out HC.out n HN.out HF.out.symm k hk)
      have HBA := Lib.hid (fun k => told_bd HB.out (by have := HLX.out; omega) (n : Int) k)
      have HBB := Lib.hid (fun k => told_bd HC.out (by have := HLY.out; omega) (n : Int) k)
      have HLA := Lib.hid (told_length x (n : Int))
      have HLB := Lib.hid (told_length y (n : Int))
      have HLC := Lib.hid (told_length (joinz x n y) (n : Int))
      unfold OfPost at A1 A2 A3
      rw [hmn] at A1 A2 A3 HLA HLB HLC
      have HJD : Hid (ivs x ++ ivs (List.replicate n 0) ++ ivs y = ivs (joinz x n y)) := Lib.hid (by rw [← ivs_append, ← ivs_append]; rfl)
      clear hmn
      generalize told x (n : Int) = A at *
      generalize told y (n : Int) = B at *
      generalize told (joinz x n y) (n : Int) = C at *
      generalize hfy : fit y = s at *
      clear hfy
      generalize hm : n + 1 = m at *
      have HMN := Lib.hid hm
      clear hm
      go_upto_region 13 with (first
        | (go_at_call 11; refine F1.out.mono ?_; rintro e w4 ⟨rfl, rfl⟩; clear F1)
        | (go_at_call 11; refine F2.out.mono ?_; rintro e w5 ⟨rfl, rfl⟩; clear F2)
        | (go_at_call 14; refine A1.out.mono ?_; rintro e w6 ⟨u6, rfl, o6, k6⟩; obtain ⟨ao6, c6, rfl, -, -⟩ := owns_shape o6; have K6 := Lib.hid k6; have P6 := Lib.hid (sl_of_owns o6); clear o6 k6 A1)
        | (go_at_call 14; refine (A2.out _ K6.out).mono ?_; rintro e w7 ⟨u7, rfl, o7, k7⟩; obtain ⟨ao7, c7, rfl, -, -⟩ := owns_shape o7; have K7 := Lib.hid (nix_trans K6.out k7); have Q6 := Lib.hid (P6.out.nix k7); have P7 := Lib.hid (sl_of_owns o7); clear o7 k7 A2 P6))
      clear n1 hne hne2
      have K8 := Lib.hid (show Kept Nix w7 (w7.alloc (.cells #[] 3)) from (Kept.refl _ w7).alloc _)
      have O8 := Lib.hid (lit_base w7 w7.heap.size (Nat.le_refl _) [] 0 (by simp) (by simp only [maxLen]; omega))
      have SX := Lib.hid (src_ivs (HX.out.nix (nix_trans K1.out (nix_trans K7.out K8.out)))).1
      have SY := Lib.hid (fun w' (k : Kept Nix w7 w') => (src_ivs (HY.out.nix (nix_trans K1.out (nix_trans K7.out k)))).1)
      change Hid ((w7.alloc (.cells #[] 3)).ownsRow w7.heap.size 3 1 _ 0 []) at O8
      generalize hw8 : w7.alloc (.cells #[] 3) = w8 at *
      go_upto_region 14 with (first
        | (refine wpList_app _ rfl _ _ 22 rfl w7.heap.size 3 (.int .i64 0) 1 8 Try.underlying22 info_int rfl (by decide) _ _ _ rfl O8.out xo _ xcap (ivs x) rfl SX.out (by have := HLX.out; unfold maxLen; omega) (by have := HLX.out; omega) K8.out.size ?_
           intro v9 w9 o9 g9 n9; have K9 := Lib.hid (show Kept Nix w7 w9 from K8.out.grown g9 (fun kk hkk => .inr (O8.out.lt kk hkk).1)); have O9 := Lib.hid o9; clear o9 g9 n9 O8)
        | (refine wpList_app_z rfl _ _ rfl w7.heap.size _ _ _ rfl O9.out n rfl (by have := HN.out; omega) (by have := HLX.out; omega) K9.out.size ?_
           intro v10 w10 o10 g10 n10; have K10 := Lib.hid (show Kept Nix w7 w10 from K9.out.grown g10 (fun kk hkk => .inr (O9.out.lt kk hkk).1)); have O10 := Lib.hid o10; clear o10 g10 n10 O9)
        | (refine wpList_app _ rfl _ _ 22 rfl w7.heap.size 3 (.int .i64 0) 1 8 Try.underlying22 info_int rfl (by decide) _ _ _ rfl O10.out yo _ ycap (ivs y) rfl (SY.out _ K10.out) (by have := HLX.out; have := HLY.out; have := HN.out; unfold maxLen; omega) (by have := HLX.out; have := HLY.out; have := HN.out; omega) K10.out.size ?_
           intro v11 w11 o11 g11 n11; have K11 := Lib.hid (show Kept Nix w7 w11 from K10.out.grown g11 (fun kk hkk => .inr (O10.out.lt kk hkk).1)); have O11 := Lib.hid o11; clear o11 g11 n11 O10)
        | (go_at_call 14; refine (A3.out _ w11 (by rw [← HJD.out]; exact sl_of_owns O11.out)).mono ?_; rintro e w12 ⟨u12, rfl, o12, k12⟩; obtain ⟨ao12, c12, rfl, -, -⟩ := owns_shape o12; have K12 := Lib.hid (nix_trans K11.out k12); have P12 := Lib.hid (sl_of_owns o12); have R6 := Lib.hid (Q6.out.nix (nix_trans K11.out k12)); have R7 := Lib.hid (P7.out.nix (nix_trans K11.out k12)); clear o12 k12 A3 Q6 P7))
      have hwt : wrap64 ((n : Int) + 1) = (m : Int) := by have := HMN.out; have := HN.out; unfold wrap64; omega

      have he1 : ((m : Int) != (m : Int)) = false := bne_self_eq_false _
      have he2 : (m != m) = false := bne_self_eq_false _
      have KT := Lib.hid (nix_trans K1.out (nix_trans K7.out K12.out))
      clear hw8 SX SY K6 K7 K8 K9 K10 K11 O11
      go_upto_if 83 with fail
      clear hwt he1 he2
      go_wp2
      refine wp_loop (JoInv (.slice ao6 m c6) (.slice ao7 m c7) (.slice ao12 m c12) n w12) (fun a _ => (n + 1) - (intOf (a.tmps.getD 16 undef)).toNat) ?_ ?_
      · exact ⟨rfl, rfl, rfl, rfl, rfl, rfl, rfl, 0, Nat.zero_le _, rfl, 0, rfl⟩
      · rintro ⟨tm, df⟩ w13 ⟨rfl, hs, h7, h12, h13, h14, h15, k, hk, h16, nn, hw13⟩
        simp only at hs h7 h12 h13 h14 h15 h16
        obtain ⟨f, hf, hg⟩ := fr_open hs
        have e7 := hg _ _ h7
        have e12 := hg _ _ h12
        have e13 := hg _ _ h13
        have e14 := hg _ _ h14
        have e15 := hg _ _ h15
        have e16 := hg _ _ h16
        simp only [List.range, List.range.loop, List.map] at hf
        rw [e7, e12, e13, e14, e15, e16] at hf
        clear e7 e12 e13 e14 e15 e16 hg hs h7 h12 h13 h14 h15 h16
        subst hf
        have hk13 : Kept Nix w12 w13 := by rw [hw13]; exact (Kept.refl _ w12).drewN nn
        have HW13 := Lib.hid hw13
        by_cases hlt : k < m
        · have hkn : k ≤ n := by have := HMN.out; omega
          have hd1 : decide ((k : Int) ≤ (n : Int)) = true := decide_eq_true (by omega)
          have hd2 : decide (k ≤ n) = true := decide_eq_true hkn
          obtain ⟨b6, o6, rfl, hc6⟩ := cell_kept R6.out k (by rw [HLA.out]; exact hlt)
          obtain ⟨b7, o7, rfl, hc7⟩ := cell_kept R7.out k (by rw [HLB.out]; exact hlt)
          obtain ⟨b12, o12, rfl, hc12⟩ := cell_kept P12.out k (by rw [HLC.out]; exact hlt)
          have c6 := hc6 w13 hk13
          have c7 := hc7 w13 hk13
          have c12 := hc12 w13 hk13
          have hi1 : (k : Int) < (m : Int) := by omega
          have hr1 : wrap64 ((k : Int) + 1) = ((k + 1 : Nat) : Int) := by have := HN.out; unfold wrap64; omega
          have hs1 : IntKind.i64.wrap (A.getD k 0 + B.getD k 0) = C.getD k 0 := by
            rw [HJ.out k hkn]
            have h1 := HBA.out k
            have h2 := HBB.out k
            exact IntWalk.i64_in _ (by omega)
          have HK := Lib.hid (show k < n + 1 by omega)
          have R1 := Lib.hid hr1
          clear hr1 hlt hkn hk hc6 hc7 hc12 hw13 hk13
          generalize A.getD k 0 = x1 at *
          generalize B.getD k 0 = x2 at *
          generalize C.getD k 0 = x3 at *
          have hne : (x3 != x3) = false := bne_self_eq_false _
          go_wp2
          go_quiet (fail)
          have HW14 := Lib.hid (show w13.drewN nq = w12.drewN (nn + nq) by rw [HW13.out, World.drewN_drewN])
          generalize hwx : w13.drewN nq = w14 at *
          clear hwx
          go_wp2
          rw [R1.out]
          exact ⟨⟨rfl, rfl, rfl, rfl, rfl, rfl, rfl, k + 1, HK.out, rfl, _, HW14.out⟩, nearer HK.out rfl⟩
        · have hd1 : decide ((k : Int) ≤ (n : Int)) = false := decide_eq_false (by have := HMN.out; omega)
          have hd2 : decide (k ≤ n) = false := decide_eq_false (by have := HMN.out; omega)
          clear hlt hk hw13 hk13
          go_wp2
          go_ret
          exact ⟨rfl, by rw [HW13.out]; exact KT.out.drewN nn⟩
    · have hne : (((fit x : Nat) : Int) != ((fit y : Nat) : Int)) = true := bne_iff_ne.2 (by omega)
      have hne2 : (fit x != fit y) = true := bne_iff_ne.2 hf
      clear hf
      generalize fit x = s at *
      generalize fit y = t at *
      go_wp2_with (first
        | (go_at_call 11; refine F1.out.mono ?_; rintro e w4 ⟨rfl, rfl⟩; clear F1)
        | (go_at_call 11; refine F2.out.mono ?_; rintro e w5 ⟨rfl, rfl⟩; clear F2))
      go_ret
      exact ⟨rfl, K1.out⟩

end Go.Proofs.Ytheleifichacjaa
