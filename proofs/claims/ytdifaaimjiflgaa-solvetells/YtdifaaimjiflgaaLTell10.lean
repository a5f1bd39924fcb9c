/- The walk of SolveTells. -/
import Derived.Test.YtdifaaimjiflgaaAwake10
import Derived.Test.YtdifaaimjiflgaaSolRS
import Derived.Test.YtdifaaimjiflgaaArgs
namespace Go.Proofs.Ytdifaaimjiflgaa
open Go.RowKit Bx

set_option maxHeartbeats 4000000 in
theorem walk_SolveTells (w : World) (vx : Value) (x : List Int) (hx : Sl w vx (x.map (Value.int .i64))) (_ : ∀ n ∈ x, (Lit.int .i64 n).wf = true) (order : Int) (_ : (Lit.int .i64 order).wf = true) :
    Calls Try.prog 3 #[vx, .int .i64 order] w fun e w' => e = .returned (.bool true) ∧ Kept Nix w w' := by
  have HA := awake_any w
  obtain ⟨xo, xcap, rfl, hxc, -⟩ := hx.ints
  have HX := Lib.hid (sl_ivs hx)
  clear hx hxc
  go_enter Try.func3, Try.ntmps3
  go_upto_region 3 with (first
    | (go_at_call 9; refine HA.mono ?_; rintro e w1 ⟨rfl, k1⟩; have K1 := Lib.hid k1; clear k1; have NR := Lib.hid (right_any _ x w1 (HX.out.nix K1.out)))
    | (go_at_call 10; refine NR.out.mono ?_; rintro e w2 ⟨rfl, n2, hw2⟩; have K2 := Lib.hid (show Kept Nix w w2 by rw [hw2]; exact K1.out.drewN n2); clear NR hw2))
  clear HA
  by_cases hlen : 40 < x.length
  · have hd : decide ((40 : Int) < (x.length : Int)) = true := decide_eq_true (by omega)
    clear hlen
    go_wp2
    go_ret
    exact ⟨rfl, K2.out⟩
  have hd : decide ((40 : Int) < (x.length : Int)) = false := decide_eq_false (by omega)
  cases hr : rtB x with
  | false =>
    clear hlen
    go_wp2
    go_ret
    exact ⟨rfl, K2.out⟩
  | true =>
    have HR := Lib.hid (rt_of hr)
    have HLX := Lib.hid (show x.length ≤ 40 by omega)
    clear hlen hr
    generalize hl : x.length = l at *
    have HL := Lib.hid hl
    clear hl
    have P1 := Lib.hid (solve_any _ x order w2 (HX.out.nix K2.out) HR.out (by rw [HL.out]; have := HLX.out; omega))
    have P2 := Lib.hid (fun w' (k : Kept Nix w2 w') => rsol_any _ x order w' (HX.out.nix (nix_trans K2.out k)) HR.out (by rw [HL.out]; exact HLX.out))
    unfold SolPost at P1 P2
    generalize sol x order = R at *
    go_wp2_with (first
      | (go_at_call 12; refine P1.out.mono ?_; rintro e w3 ⟨u3, us3, rfl, r3, k3⟩; have K3 := Lib.hid k3; have S3 := Lib.hid r3.chs; clear r3 k3 P1)
      | (go_at_call 13; refine (P2.out _ K3.out).mono ?_; rintro e w4 ⟨u4, us4, rfl, r4, k4⟩; have K4 := Lib.hid (nix_trans K3.out k4); have SM := Lib.hid (same_eq _ _ R w4 (S3.out.nix k4) r4.chs); clear r4 k4 P2)
      | (go_at_call 11; refine SM.out.mono ?_; rintro e w5 ⟨rfl, nn, rfl⟩; clear SM))
    go_ret
    exact ⟨rfl, nix_trans K2.out (K4.out.drewN nn)⟩

end Go.Proofs.Ytdifaaimjiflgaa
