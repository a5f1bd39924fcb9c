/- The walk of CostTells. -/
import Derived.Test.YtpbfmbmdagpmpaaAwake13
import Derived.Test.YtpbfmbmdagpmpaaRCost1
import Derived.Test.YtpbfmbmdagpmpaaArgs
import Derived.Deep.RegionHeld3
namespace Go.Proofs.Ytpbfmbmdagpmpaa
open Go.RowKit Bx

set_option maxRecDepth 10000 in
set_option maxHeartbeats 4000000 in
theorem walk_CostTells (w : World) (v : Value) (x : List Int) (hx : Sl w v (x.map (Value.int .i64))) (_hw : ∀ n ∈ x, (Lit.int .i64 n).wf = true) (k : Int) (_hk : (Lit.int .i64 k).wf = true) (raw : Bool) :
    Calls Try.prog 3 #[v, .int .i64 k, .bool raw] w fun e w' => e = .returned (.bool true) ∧ Kept Nix w w' := by
  obtain ⟨xo, xc, rfl, -⟩ := hx.ints
  have HX := Lib.hid (show Sl w (.slice xo x.length xc) (ivs x) from hx)
  have HA := Lib.hid (awake_any w)
  clear hx _hw _hk
  go_enter Try.func3, Try.ntmps3
  go_upto_region 2 with (go_at_call 9; refine HA.out.mono ?_; rintro e w3 ⟨rfl, k1⟩; have K1 := Lib.hid k1; clear k1)
  clear HA
  by_cases hlen : 100 < x.length
  · have hd : decide ((100 : Int) < (x.length : Int)) = true := decide_eq_true (by omega)
    clear hlen
    go_wp2
    go_ret
    exact ⟨rfl, K1.out⟩
  have hd : decide ((100 : Int) < (x.length : Int)) = false := decide_eq_false (by omega)
  have HL := Lib.hid (show x.length ≤ 1048576 by omega)
  clear hlen
  go_upto_region 5 with fail
  clear hd
  have C1 := Lib.hid (part_cells w3 k raw 25)
  have K4 := Lib.hid (nix_trans K1.out ((Kept.refl Nix w3).alloc (.cells #[.int .i64 k, .bool raw] 25)))
  generalize w3.alloc (.cells #[.int .i64 k, .bool raw] 25) = w4 at *
  generalize w3.heap.size = g at *
  have B1 := Lib.hid (fun w' (h : Kept Nix w4 w') => cbits_any _ x k w' (HX.out.nix (nix_trans K4.out h)) HL.out)
  have B2 := Lib.hid (fun w' (h : Kept Nix w4 w') => rcbits_any _ x k w' (HX.out.nix (nix_trans K4.out h)) HL.out)
  have W1 := Lib.hid (fun w' (h : Kept Nix w4 w') => cwidth_any _ x w' (HX.out.nix (nix_trans K4.out h)))
  have W2 := Lib.hid (fun w' (h : Kept Nix w4 w') => rcwidth_any _ x w' (HX.out.nix (nix_trans K4.out h)) HL.out)
  have E1 := Lib.hid (fun w' (h : Kept Nix w4 w') => ceach_any _ x k raw w' (HX.out.nix (nix_trans K4.out h)) HL.out)
  have E2 := Lib.hid (fun w' (h : Kept Nix w4 w') => rceach_any _ x k raw w' (HX.out.nix (nix_trans K4.out h)) HL.out)
  generalize cbits x k = xb at *
  generalize cwid x = xw at *
  generalize ceach x k raw = xe at *
  have q1 : (xb == xb) = true := by simp
  have q2 : (xw == xw) = true := by simp
  have q3 : (xe == xe) = true := by simp
  obtain ⟨c1, c2, -⟩ := C1.out w4 (Kept.refl _ _)
  have KD := Lib.hid ((Kept.refl Nix w4).drew)
  go_region_held3 (fun w' => Kept Nix w4 w' ∧ w'.cell? ⟨g, 0, none⟩ = some (.int .i64 k) ∧ w'.cell? ⟨g, 1, none⟩ = some (.bool raw))
    (first | assumption | exact ⟨KD.out, c1, c2⟩ | exact ⟨HE1.out, (C1.out _ HE1.out).1, (C1.out _ HE1.out).2.1⟩ | exact ⟨HE2.out, (C1.out _ HE2.out).1, (C1.out _ HE2.out).2.1⟩)
    (first
      | (go_at_call 10; refine (B1.out _ (And.left (by assumption))).mono ?_; rintro e wx ⟨rfl, rfl⟩; clear B1)
      | (go_at_call 11; refine (B2.out _ (And.left (by assumption))).mono ?_; rintro e wx ⟨rfl, rfl⟩; clear B2)
      | (go_at_call 12; refine (W1.out _ (And.left (by assumption))).mono ?_; rintro e wx ⟨rfl, rfl⟩; clear W1)
      | (go_at_call 13; refine (W2.out _ (And.left (by assumption))).mono ?_; rintro e wx ⟨rfl, rfl⟩; clear W2)
      | (go_at_call 14; refine (E1.out _ (And.left (by assumption))).mono ?_; rintro e wx ⟨rfl, kx⟩; have HE1 := Lib.hid (nix_trans (And.left (by assumption)) kx); clear kx E1)
      | (go_at_call 15; refine (E2.out _ (And.left (by assumption))).mono ?_; rintro e wx ⟨rfl, kx⟩; have HE2 := Lib.hid (nix_trans (And.left (by assumption)) kx); clear kx E2))
  all_goals
    have KF := Lib.hid (nix_trans K4.out HE2.out)
    go_wp2
    go_ret
    exact ⟨rfl, KF.out⟩

end Go.Proofs.Ytpbfmbmdagpmpaa
