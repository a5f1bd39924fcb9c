/- The walk of PartsBest. -/
import Derived.Test.YtliggpidkdiinaaAwake14
import Derived.Test.YtliggpidkdiinaaRPtBest
import Derived.Test.YtliggpidkdiinaaRPtSame
namespace Go.Proofs.Ytliggpidkdiinaa
open Go.RowKit Bx

set_option maxRecDepth 10000 in
set_option maxHeartbeats 4000000 in
theorem walk_PartsBest (w : World) (v : Value) (x : List Int) (hx : Sl w v (x.map (Value.int .i64))) (_hw : ∀ n ∈ x, (Lit.int .i64 n).wf = true)
    (order : Int) (_ho : (Lit.int .i64 order).wf = true) (most : Int) (_hm : (Lit.int .i64 most).wf = true) (wide : Bool) :
    Calls Try.prog 3 #[v, .int .i64 order, .int .i64 most, .bool wide] w fun e w' => e = .returned (.bool true) ∧ Kept Nix w w' := by
  obtain ⟨xo, xc, rfl, -⟩ := hx.ints
  have HX := Lib.hid (show Sl w (.slice xo x.length xc) (ivs x) from hx)
  have HA := Lib.hid (awake_any w)
  clear hx _hw _ho _hm
  go_enter Try.func3, Try.ntmps3
  go_upto_region 2 with (go_at_call 8; refine HA.out.mono ?_; rintro e w1 ⟨rfl, k1⟩; have K1 := Lib.hid k1; clear k1)
  clear HA
  by_cases hlen : 80 < x.length
  · have hd : decide ((80 : Int) < (x.length : Int)) = true := decide_eq_true (by omega)
    clear hlen
    go_wp2
    go_ret
    exact ⟨rfl, K1.out⟩
  have hd : decide ((80 : Int) < (x.length : Int)) = false := decide_eq_false (by omega)
  have HL := Lib.hid (show x.length ≤ 1048576 by omega)
  clear hlen
  have B1 := Lib.hid (pbest_any _ x order most wide w1 (HX.out.nix K1.out) HL.out)
  have B2 := Lib.hid (fun w' (h : Kept Nix w1 w') => rpbest_any _ x order most wide w' (HX.out.nix (nix_trans K1.out h)) HL.out)
  unfold PBPost at B1 B2
  generalize pbW x order most wide = W at *
  generalize pbO x order most wide = O at *
  generalize pbN x order most wide = N at *
  generalize pbE x order most = E at *
  generalize pbP x order most wide = PS at *
  go_upto_region 5 with (go_at_call 9; refine B1.out.mono ?_; rintro e w3 ⟨u1, rfl, o1, k3⟩; have T1 := Lib.hid (pts_of_owns o1); obtain ⟨u1o, u1c, rfl, -⟩ := owns_shape o1; have K3 := Lib.hid k3; clear k3 o1 B1)
  have H4 := Lib.hid (heap_alloc_new w3 (.cells #[.bool W, .int .i64 O, .slice u1o PS.length u1c] 26))
  have K34 := Lib.hid ((Kept.refl Nix w3).alloc (.cells #[.bool W, .int .i64 O, .slice u1o PS.length u1c] 26))
  generalize w3.alloc (.cells #[.bool W, .int .i64 O, .slice u1o PS.length u1c] 26) = w4 at *
  generalize w3.heap.size = g4 at *
  have B3 := Lib.hid (B2.out w4 (nix_trans K3.out K34.out))
  clear B2
  go_upto_region 6 with (go_at_call 10; refine B3.out.mono ?_; rintro e w5 ⟨u2, rfl, o2, k5⟩; have T2 := Lib.hid (pts_of_owns o2); obtain ⟨u2o, u2c, rfl, -⟩ := owns_shape o2; have K5 := Lib.hid k5; clear k5 o2 B3)
  have H6 := Lib.hid (heap_alloc_new w5 (.cells #[.bool W, .int .i64 O, .slice u2o PS.length u2c] 26))
  have K56 := Lib.hid ((Kept.refl Nix w5).alloc (.cells #[.bool W, .int .i64 O, .slice u2o PS.length u2c] 26))
  generalize w5.alloc (.cells #[.bool W, .int .i64 O, .slice u2o PS.length u2c] 26) = w6 at *
  generalize w5.heap.size = g6 at *
  have K46 := Lib.hid (nix_trans K5.out K56.out)
  obtain ⟨x0, x1, x2⟩ := cells_three (K46.out.heap H4.out id)
  obtain ⟨y0, y1, y2⟩ := cells_three H6.out
  have RS := Lib.hid (rpsame_eq W O _ _ PS w6 (T1.out.nix (nix_trans K34.out K46.out)) (T2.out.nix K56.out))
  have KE := Lib.hid (nix_trans K1.out (nix_trans K3.out (nix_trans K34.out K46.out)))
  have e1 : (E == E) = true := by simp
  have e2 : (N == N) = true := by simp
  clear T1 T2 H4 H6 K34 K56 K46 K5 K3
  go_wp2_with (go_at_call 11; refine RS.out.mono ?_; rintro e w7 ⟨rfl, k7⟩; have K7 := Lib.hid k7; clear k7 RS)
  go_ret
  exact ⟨rfl, nix_trans KE.out K7.out⟩

end Go.Proofs.Ytliggpidkdiinaa
