/- The walk of LagsFirst. -/
import Derived.Test.YtheleifichacjaaAwake09
import Derived.Test.YtheleifichacjaaLagSq
import Derived.Test.YtheleifichacjaaLagOrd
import Derived.Test.YtheleifichacjaaArgs
namespace Go.Proofs.Ytheleifichacjaa
open Go.RowKit Bx

def FirstA (vx vr : Value) (ys : List Int) (n s : Nat) (w : World) (a : Act) (w' : World) : Prop :=
  a.defers = [] ∧ a.tmps.size = 95 ∧ a.tmps[0]? = some vx ∧ a.tmps[5]? = some (.bool true) ∧ a.tmps[7]? = some vr ∧ a.tmps[8]? = some (.int .i64 (s : Int)) ∧
  ∃ i : Nat, i ≤ n ∧ a.tmps[10]? = some (.int .i64 (i : Int)) ∧ a.tmps[9]? = some (.bool (nz (ys.take i))) ∧ w' = w

def FirstB (vx vr : Value) (z : Bool) (m : Nat) (w : World) (a : Act) (w' : World) : Prop :=
  a.defers = [] ∧ a.tmps.size = 95 ∧ a.tmps[0]? = some vx ∧ a.tmps[5]? = some (.bool true) ∧ a.tmps[7]? = some vr ∧ a.tmps[9]? = some (.bool z) ∧
  ∃ i : Nat, i ≤ m ∧ a.tmps[11]? = some (.int .i64 (i : Int)) ∧ ∃ nn, w' = w.drewN nn

theorem first_nums {ys : List Int} (hb : Bd 4194304 ys) (k : Nat) (hl : ys.length ≤ 65535) : wrap64 (-lag ys k) = -lag ys k ∧ IntKind.i64.wrap (-lag ys k) = -lag ys k ∧ decide (lag ys 0 < max (lag ys k) (-lag ys k)) = false ∧ decide (lag ys 0 < (if lag ys k < -lag ys k then -lag ys k else lag ys k)) = false := by
  have h1 : -1152921504606846976 ≤ lag ys k ∧ lag ys k ≤ 1152921504606846976 := part_bd hb k _ (by omega)
  have h2 := lag_top ys k
  generalize lag ys k = S at *
  generalize lag ys 0 = T at *
  refine ⟨w64_in _ (by omega), IntWalk.i64_in _ (by omega), decide_eq_false (by omega), decide_eq_false (by split <;> omega)⟩

set_option maxHeartbeats 4000000 in
theorem walk_LagsFirst (w : World) (vx : Value) (x : List Int) (hx : Sl w vx (x.map (Value.int .i64))) (_ : ∀ n ∈ x, (Lit.int .i64 n).wf = true) (order : Int) (wo : (Lit.int .u8 order).wf = true) :
    Calls Try.prog 4 #[vx, .int .u8 order] w fun e w' => e = .returned (.bool true) ∧ Kept Nix w w' := by
  have HA := awake_any w
  obtain ⟨xo, xcap, rfl, hxc, -⟩ := hx.ints
  obtain ⟨o, rfl, ho⟩ := nat_u8 wo
  have HX := Lib.hid (sl_ivs hx)
  have HO := Lib.hid ho
  clear hx wo ho hxc
  go_enter Try.func4, Try.ntmps4
  go_upto_region 3 with (first
    | (go_at_call 9; refine HA.mono ?_; rintro e w1 ⟨rfl, k1⟩; have K1 := Lib.hid k1; clear k1; have NR := Lib.hid (rnear_any _ x w1 (HX.out.nix K1.out)))
    | (go_at_call 10; refine NR.out.mono ?_; rintro e w2 ⟨rfl, rfl⟩; clear NR))
  clear HA
  by_cases hlen : 80 < x.length
  · have hd : decide ((80 : Int) < (x.length : Int)) = true := decide_eq_true (by omega)
    clear hlen
    go_wp2
    go_ret
    exact ⟨rfl, K1.out⟩
  have hd : decide ((80 : Int) < (x.length : Int)) = false := decide_eq_false (by omega)
  cases hn : near x with
  | false =>
    clear hlen
    go_wp2
    go_ret
    exact ⟨rfl, K1.out⟩
  | true =>
    have HB := Lib.hid (near_bd hn)
    have HLX := Lib.hid (show x.length ≤ 80 by omega)
    clear hlen hn
    have HLY := Lib.hid (dv_length (fit x) x)
    have HDG := Lib.hid (dv_get (fit x) x)
    obtain ⟨n, n1, n2⟩ := ord_u8 o
    have OR := Lib.hid (of_any _ x (n : Int) w2 (HX.out.nix K1.out) HB.out (by have := HLX.out; omega))
    have hmn : many (n : Int) = n + 1 := by rw [many_nat]; omega
    have HTG : Hid (∀ i, i < n + 1 → (told x (n : Int)).getD i 0 = lag (dv (fit x) x) i) := Lib.hid (fun i hi => by unfold told; exact lags_get _ _ _ (by rw [hmn]; exact hi))
    have HTL : Hid ((told x (n : Int)).length = n + 1) := Lib.hid (by rw [told_length, hmn])
    have HDB := Lib.hid (dv_bd HB.out)
    have FT := Lib.hid (fun w' (k : Kept Nix w2 w') => fit_any _ x w' (HX.out.nix (nix_trans K1.out k)) HB.out)
    have HFT := Lib.hid (fit_top HB.out)
    unfold OfPost at OR
    rw [hmn] at OR
    have hne : (((n + 1 : Nat) : Int) != 1 + (n : Int)) = false := by rw [show ((n + 1 : Nat) : Int) = 1 + (n : Int) by omega]; exact bne_self_eq_false _
    have hw : wrap64 (1 + (n : Int)) = 1 + (n : Int) := by unfold wrap64; omega
    have HN := Lib.hid n2
    clear hmn n2
    generalize dv (fit x) x = ys at *
    generalize fit x = s at *
    generalize told x (n : Int) = R at *
    generalize hl : x.length = l at *
    have HL := Lib.hid hl
    clear hl
    generalize hm : n + 1 = m at *
    have HMN := Lib.hid hm
    clear hm
    go_wp2_with (first
      | (go_at_call 14; refine OR.out.mono ?_; rintro e w3 ⟨u3, rfl, o3, k3⟩; obtain ⟨ao3, c3, rfl, -, -⟩ := owns_shape o3; have K3 := Lib.hid k3; have O3 := Lib.hid (sl_of_owns o3); clear o3 k3 OR)
      | (go_at_call 11; refine (FT.out _ K3.out).mono ?_; rintro e w4 ⟨rfl, rfl⟩))
    clear hne hw n1 hd FT
    have S4 := Lib.hid (HX.out.nix (nix_trans K1.out K3.out))
    refine wp_loop (FirstA (.slice xo l xcap) (.slice ao3 m c3) ys l s w4) (fun a _ => l - (intOf (a.tmps.getD 10 undef)).toNat) ?_ ?_
    · exact ⟨rfl, rfl, rfl, rfl, rfl, rfl, 0, Nat.zero_le _, rfl, rfl, rfl⟩
    · rintro ⟨tm, df⟩ w5 ⟨rfl, hs, h0, h5, h7, h8, i, hi, h10, h9, rfl⟩
      simp only at hs h0 h5 h7 h8 h10 h9
      obtain ⟨f, hf, hg⟩ := fr_open hs
      have e0 := hg _ _ h0
      have e5 := hg _ _ h5
      have e7 := hg _ _ h7
      have e8 := hg _ _ h8
      have e10 := hg _ _ h10
      have e9 := hg _ _ h9
      simp only [List.range, List.range.loop, List.map] at hf
      rw [e0, e5, e7, e8, e10, e9] at hf
      clear e0 e5 e7 e8 e10 e9 hg hs h0 h5 h7 h8 h10 h9
      subst hf
      by_cases hlt : i < l
      · have hi1 : (i : Int) < (l : Int) := by omega
        have hdd : decide (i < l) = true := decide_eq_true hlt
        have hw1 : wrap64 ((i : Int) + 1) = ((i + 1 : Nat) : Int) := by have := HLX.out; unfold wrap64; omega
        obtain ⟨b1, o1, rfl, hc1⟩ := cell_kept S4.out i (by rw [HL.out]; exact hlt)
        have c1 := hc1 w5 (Kept.refl _ _)
        have hs0 : decide ((s : Int) < 0) = false := decide_eq_false (by omega)
        have hs1 : (s : Int) < 64 := by have := HFT.out; omega
        have hs2 : s < 64 := by have := HFT.out; omega
        have HNZ := Lib.hid (nz_take ys i (by rw [HLY.out]; exact hlt))
        rw [HDG.out i] at HNZ
        have HI := Lib.hid hlt
        have HW1 := Lib.hid hw1
        clear hw1 hlt hi hc1
        generalize x.getD i 0 = xi at *
        cases hz : nz (ys.take i) with
        | true =>
          go_wp2
          rw [HW1.out]
          refine ⟨⟨rfl, rfl, rfl, rfl, rfl, rfl, i + 1, HI.out, rfl, ?_, rfl⟩, nearer HI.out rfl⟩
          rw [HNZ.out, hz, Bool.true_or]
          rfl
        | false =>
          go_wp2
          rw [HW1.out]
          refine ⟨⟨rfl, rfl, rfl, rfl, rfl, rfl, i + 1, HI.out, rfl, ?_, rfl⟩, nearer HI.out rfl⟩
          rw [HNZ.out, hz, Bool.false_or]
          rfl
      · have hie : i = l := by omega
        subst hie
        have hdd : decide (i < i) = false := decide_eq_false hlt
        rw [List.take_of_length_le (Nat.le_of_eq HLY.out)]
        have HP := Lib.hid (lag0_nz ys)
        clear hlt hi
        generalize nz ys = z at *
        go_wp2
        clear hdd
        refine wp_loop (FirstB (.slice xo i xcap) (.slice ao3 m c3) z m w5) (fun a _ => m - (intOf (a.tmps.getD 11 undef)).toNat) ?_ ?_
        · exact ⟨rfl, rfl, rfl, rfl, rfl, rfl, 0, Nat.zero_le _, rfl, 0, rfl⟩
        · rintro ⟨tm, df⟩ w6 ⟨rfl, hs, h0, h5, h7, h9, k, hk, h11, nn, rfl⟩
          simp only at hs h0 h5 h7 h9 h11
          obtain ⟨f, hf, hg⟩ := fr_open hs
          have e0 := hg _ _ h0
          have e5 := hg _ _ h5
          have e7 := hg _ _ h7
          have e9 := hg _ _ h9
          have e11 := hg _ _ h11
          simp only [List.range, List.range.loop, List.map] at hf
          rw [e0, e5, e7, e9, e11] at hf
          clear e0 e5 e7 e9 e11 hg hs h0 h5 h7 h9 h11
          subst hf
          have HM0 := Lib.hid (show 0 < m by have := HMN.out; omega)
          obtain ⟨b3, o3, rfl, hc0⟩ := cell_kept O3.out 0 (by rw [HTL.out]; exact HM0.out)
          have c0 := hc0 w5 (Kept.refl _ _)
          rw [HTG.out 0 HM0.out, Nat.add_zero] at c0
          by_cases hlt : k < m
          · obtain ⟨b3', o3', he, hc1⟩ := cell_kept O3.out k (by rw [HTL.out]; exact hlt)
            simp only [Option.some.injEq, Addr.mk.injEq, and_true] at he
            obtain ⟨rfl, rfl⟩ := he
            have c1 := hc1 w5 (Kept.refl _ _)
            rw [HTG.out k hlt] at c1
            have hi1 : (k : Int) < (m : Int) := by omega
            have hi0 : 0 < m := HM0.out
            have hdd : decide (k < m) = true := decide_eq_true hlt
            obtain ⟨n1, n2, n3, n4⟩ := first_nums HDB.out k (by rw [HLY.out]; have := HLX.out; omega)
            have hw1 : wrap64 ((k : Int) + 1) = ((k + 1 : Nat) : Int) := by have := HMN.out; have := HN.out; unfold wrap64; omega
            have HOUT := Lib.hid (lag_out ys k)
            have HI := Lib.hid hlt
            have HW1 := Lib.hid hw1
            clear hw1 hlt hk hc0 hc1
            generalize lag ys k = S at *
            generalize lag ys 0 = T at *
            by_cases hik : i ≤ k
            · have hd2 : decide ((i : Int) ≤ (k : Int)) = true := decide_eq_true (by omega)
              have hd3 : decide (i ≤ k) = true := decide_eq_true hik
              have hS : (S != 0) = false := by rw [HOUT.out (by rw [HLY.out]; exact hik)]; rfl
              clear hik
              go_wp2
              go_quiet (fail)
              go_wp2
              rw [HW1.out]
              exact ⟨⟨rfl, rfl, rfl, rfl, rfl, rfl, k + 1, HI.out, rfl, _, rfl⟩, nearer HI.out rfl⟩
            · have hd2 : decide ((i : Int) ≤ (k : Int)) = false := decide_eq_false (by omega)
              have hd3 : decide (i ≤ k) = false := decide_eq_false hik
              clear hik
              go_wp2
              go_quiet (fail)
              go_wp2
              rw [HW1.out]
              exact ⟨⟨rfl, rfl, rfl, rfl, rfl, rfl, k + 1, HI.out, rfl, _, rfl⟩, nearer HI.out rfl⟩
          · have hie : k = m := by omega
            subst hie
            have hdd : decide (k < k) = false := decide_eq_false hlt
            have hi0 : 0 < k := HM0.out
            have hp := HP.out
            clear hlt hk hc0
            generalize lag ys 0 = T at *
            cases z with
            | true =>
              go_wp2
              go_ret
              exact ⟨rfl, nix_trans (nix_trans K1.out K3.out) ((Kept.refl _ _).drewN nn)⟩
            | false =>
              go_wp2
              go_ret
              exact ⟨rfl, nix_trans (nix_trans K1.out K3.out) ((Kept.refl _ _).drewN nn)⟩

end Go.Proofs.Ytheleifichacjaa
