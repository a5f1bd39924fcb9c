/- The walk of LagsTell. -/
import Derived.Test.YtheleifichacjaaAwake09
import Derived.Test.YtheleifichacjaaLagROf
import Derived.Test.YtheleifichacjaaArgs
namespace Go.Proofs.Ytheleifichacjaa
open Go.RowKit Bx

set_option maxHeartbeats 2000000 in
theorem walk_LagsTell (w : World) (vx : Value) (x : List Int) (hx : Sl w vx (x.map (Value.int .i64))) (_ : ∀ n ∈ x, (Lit.int .i64 n).wf = true) (order : Int) (_ : (Lit.int .i64 order).wf = true) :
    Calls Try.prog 3 #[vx, .int .i64 order] w fun e w' => e = .returned (.bool true) ∧ Kept Nix w w' := by
  have HA := awake_any w
  obtain ⟨xo, xcap, rfl, hxc, -⟩ := hx.ints
  have HX := Lib.hid (sl_ivs hx)
  clear hx hxc
  go_enter Try.func3, Try.ntmps3
  go_upto_region 3 with (first
    | (go_at_call 9; refine HA.mono ?_; rintro e w1 ⟨rfl, k1⟩; have K1 := Lib.hid k1; clear k1; have NR := Lib.hid (rnear_any _ x w1 (HX.out.nix K1.out)))
    | (go_at_call 10; refine NR.out.mono ?_; rintro e w2 ⟨rfl, rfl⟩; clear NR))
  clear HA
  by_cases hlen : 80 < x.length
  · have hd : decide ((80 : Int) < (x.length : Int)) = true := decide_eq_true (by omega)
    clear hlen
    go_wp2
    go_ret
    exact ⟨rfl, K1.out⟩
  have hd : decide ((80 : Int) < (x.length : Int)) = false := decide_eq_false (by omega)
  cases hn : near x with
  | false =>
    clear hlen
    go_wp2
    go_ret
    exact ⟨rfl, K1.out⟩
  | true =>
    have HB := Lib.hid (near_bd hn)
    have HLX := Lib.hid (show x.length ≤ 80 by omega)
    clear hlen hn
    have F1 := Lib.hid (fit_any _ x w2 (HX.out.nix K1.out) HB.out)
    have F2 := Lib.hid (rfit_any _ x w2 (HX.out.nix K1.out) HB.out)
    have O1 := Lib.hid (fun w' (k : Kept Nix w2 w') => of_any _ x order w' (HX.out.nix (nix_trans K1.out k)) HB.out (by have := HLX.out; omega))
    have O2 := Lib.hid (fun w' (k : Kept Nix w2 w') => rof_any _ x order w' (HX.out.nix (nix_trans K1.out k)) HB.out (by have := HLX.out; omega))
    have HTL := Lib.hid (show (told x order).length < 1099511627776 by rw [told_length]; have := many_top order; omega)
    have he : (((fit x : Nat) : Int) == ((fit x : Nat) : Int)) = true := beq_self_eq_true _
    have he2 : (fit x == fit x) = true := beq_self_eq_true _
    unfold OfPost at O1
    unfold ROfPost at O2
    generalize fit x = s at *
    generalize told x order = R at *
    generalize many order = lr at *
    generalize hl : x.length = l at *
    have HL := Lib.hid hl
    clear hl
    go_wp2_with (first
      | (go_at_call 11; refine F1.out.mono ?_; rintro e w3 ⟨rfl, rfl⟩; clear F1)
      | (go_at_call 12; refine F2.out.mono ?_; rintro e w4 ⟨rfl, n4, hw4⟩; have K4 := Lib.hid (show Kept Nix w3 w4 by rw [hw4]; exact (Kept.refl _ w3).drewN n4); clear F2 hw4)
      | (go_at_call 14; refine (O1.out _ K4.out).mono ?_; rintro e w5 ⟨u5, rfl, o5, k5⟩; have K5 := Lib.hid (nix_trans K4.out k5); have P5 := Lib.hid (sl_of_owns o5); clear o5 k5 O1)
      | (go_at_call 15; refine (O2.out _ K5.out).mono ?_; rintro e w6 ⟨u6, rfl, o6, k6⟩; have K6 := Lib.hid (nix_trans K5.out k6); have I1 := Lib.hid (ints_eq (P5.out.nix k6) (sl_of_owns o6) HTL.out rfl); clear o6 k6 O2)
      | (go_at_call 13; refine I1.out.mono ?_; rintro e w7 ⟨rfl, nn, rfl⟩; clear I1))
    go_ret
    exact ⟨rfl, nix_trans K1.out (K6.out.drewN nn)⟩

end Go.Proofs.Ytheleifichacjaa
