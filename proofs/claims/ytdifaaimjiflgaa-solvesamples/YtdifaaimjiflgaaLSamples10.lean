/- The walk of SolveSamples. -/
import Derived.Test.YtdifaaimjiflgaaAwake10
import Derived.Test.YtdifaaimjiflgaaSolRS
import Derived.Test.YtdifaaimjiflgaaLagSq
import Derived.Test.YtdifaaimjiflgaaLagOrd
import Derived.Test.YtdifaaimjiflgaaArgs
namespace Go.Proofs.Ytdifaaimjiflgaa
open Go.RowKit Bx

/-- What tells how alike samples are can be solved. -/
theorem told_rt {zs : List Int} (h : Bd 1099511627776 zs) (hl : zs.length ≤ 60) (order : Int) : Rt (told zs order) := by
  have hm : 0 < many order := by unfold many; omega
  have h0 : (told zs order).getD 0 0 = lag (dv (fit zs) zs) 0 := lags_get _ _ _ hm
  have hp := part_bd (dv_bd h) 0 (dv (fit zs) zs).length (by rw [dv_length]; omega)
  have hn : 0 ≤ lag (dv (fit zs) zs) 0 := by have := lag_top (dv (fit zs) zs) 0; omega
  have hq : lag (dv (fit zs) zs) 0 ≤ 1152921504606846976 := hp.2
  refine .inr ⟨by rw [h0]; exact hn, by rw [h0]; omega, fun i hi => ?_⟩
  rw [told_length] at hi
  rw [h0, show (told zs order).getD i 0 = lag (dv (fit zs) zs) i from lags_get _ _ _ hi]
  exact lag_top _ _

set_option maxHeartbeats 4000000 in
theorem walk_SolveSamples (w : World) (vx : Value) (x : List Int) (hx : Sl w vx (x.map (Value.int .i64))) (_ : ∀ n ∈ x, (Lit.int .i64 n).wf = true) (order : Int) (_ : (Lit.int .i64 order).wf = true) :
    Calls Try.prog 4 #[vx, .int .i64 order] w fun e w' => e = .returned (.bool true) ∧ Kept Nix w w' := by
  have HA := awake_any w
  obtain ⟨xo, xcap, rfl, hxc, -⟩ := hx.ints
  have HX := Lib.hid (sl_ivs hx)
  clear hx hxc
  go_enter Try.func4, Try.ntmps4
  go_upto_region 3 with (first
    | (go_at_call 9; refine HA.mono ?_; rintro e w1 ⟨rfl, k1⟩; have K1 := Lib.hid k1; clear k1; have NR := Lib.hid (rnear_any _ x w1 (HX.out.nix K1.out)))
    | (go_at_call 14; refine NR.out.mono ?_; rintro e w2 ⟨rfl, rfl⟩; clear NR))
  clear HA
  by_cases hlen : 60 < x.length
  · have hd : decide ((60 : Int) < (x.length : Int)) = true := decide_eq_true (by omega)
    clear hlen
    go_wp2
    go_ret
    exact ⟨rfl, K1.out⟩
  have hd : decide ((60 : Int) < (x.length : Int)) = false := decide_eq_false (by omega)
  cases hn : near x with
  | false =>
    clear hlen
    go_wp2
    go_ret
    exact ⟨rfl, K1.out⟩
  | true =>
    have HB := Lib.hid (near_bd hn)
    have HLX := Lib.hid (show x.length ≤ 60 by omega)
    have HRT := Lib.hid (told_rt HB.out HLX.out order)
    have HTL := Lib.hid (show (told x order).length ≤ 40 by rw [told_length]; have := many_top order; omega)
    have O1 := Lib.hid (of_any _ x order w2 (HX.out.nix K1.out) HB.out (by have := HLX.out; omega))
    have hrb : rtB (told x order) = true := of_rt HRT.out
    unfold OfPost at O1
    clear hlen hn
    generalize told x order = r at *
    generalize many order = lr at *
    generalize hl : x.length = l at *
    go_upto_region 6 with (go_at_call 15; refine O1.out.mono ?_; rintro e w3 ⟨u3, rfl, o3, k3⟩; have K3 := Lib.hid (nix_trans K1.out k3); have S3 := Lib.hid (sl_of_owns o3); clear o3 k3 O1)
    have RR := Lib.hid (right_any _ r w3 S3.out)
    rw [hrb] at RR
    clear hrb hd hl
    go_upto_region 7 with (go_at_call 10; refine RR.out.mono ?_; rintro e w4 ⟨rfl, n4, hw4⟩; have K34 := Lib.hid (show Kept Nix w3 w4 by rw [hw4]; exact (Kept.refl _ w3).drewN n4); clear RR hw4)
    have P1 := Lib.hid (solve_any _ r order w4 (S3.out.nix K34.out) HRT.out (by have := HTL.out; omega))
    have P2 := Lib.hid (fun w' (k : Kept Nix w4 w') => rsol_any _ r order w' (S3.out.nix (nix_trans K34.out k)) HRT.out HTL.out)
    unfold SolPost at P1 P2
    generalize sol r order = R at *
    go_wp2_with (first
      | (go_at_call 12; refine P1.out.mono ?_; rintro e w5 ⟨u5, us5, rfl, r5, k5⟩; have K5 := Lib.hid k5; have S5 := Lib.hid r5.chs; clear r5 k5 P1)
      | (go_at_call 13; refine (P2.out _ K5.out).mono ?_; rintro e w6 ⟨u6, us6, rfl, r6, k6⟩; have K6 := Lib.hid (nix_trans K5.out k6); have SM := Lib.hid (same_eq _ _ R w6 (S5.out.nix k6) r6.chs); clear r6 k6 P2)
      | (go_at_call 11; refine SM.out.mono ?_; rintro e w7 ⟨rfl, nn, rfl⟩; clear SM))
    go_ret
    exact ⟨rfl, nix_trans K3.out (nix_trans K34.out (K6.out.drewN nn))⟩

end Go.Proofs.Ytdifaaimjiflgaa
