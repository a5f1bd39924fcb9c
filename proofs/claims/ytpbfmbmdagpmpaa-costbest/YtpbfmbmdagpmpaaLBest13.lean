/- The walk of CostBest. -/
import Derived.Test.YtpbfmbmdagpmpaaAwake13
import Derived.Test.YtpbfmbmdagpmpaaRCost3
import Derived.Test.YtpbfmbmdagpmpaaArgs
namespace Go.Proofs.Ytpbfmbmdagpmpaa
open Go.RowKit Bx

set_option maxRecDepth 10000 in
set_option maxHeartbeats 4000000 in
theorem walk_CostBest (w : World) (v : Value) (x : List Int) (hx : Sl w v (x.map (Value.int .i64))) (_hw : ∀ n ∈ x, (Lit.int .i64 n).wf = true) (most : Int) (_hm : (Lit.int .i64 most).wf = true) :
    Calls Try.prog 4 #[v, .int .i64 most] w fun e w' => e = .returned (.bool true) ∧ Kept Nix w w' := by
  obtain ⟨xo, xc, rfl, -⟩ := hx.ints
  have HX := Lib.hid (show Sl w (.slice xo x.length xc) (ivs x) from hx)
  have HA := Lib.hid (awake_any w)
  clear hx _hw _hm
  go_enter Try.func4, Try.ntmps4
  go_upto_region 2 with (go_at_call 9; refine HA.out.mono ?_; rintro e w3 ⟨rfl, k1⟩; have K1 := Lib.hid k1; clear k1)
  clear HA
  by_cases hlen : 100 < x.length
  · have hd : decide ((100 : Int) < (x.length : Int)) = true := decide_eq_true (by omega)
    clear hlen
    go_wp2
    go_ret
    exact ⟨rfl, K1.out⟩
  have hd : decide ((100 : Int) < (x.length : Int)) = false := decide_eq_false (by omega)
  have B1 := Lib.hid (cbest_any _ x most w3 (HX.out.nix K1.out) (by omega))
  have B2 := Lib.hid (fun w' (h : Kept Nix w3 w') => rcbest_any _ x most w' (HX.out.nix (nix_trans K1.out h)) (by omega))
  unfold bestV at B1 B2
  clear hlen HX
  generalize bestK x (kk most) = pk at *
  generalize bestR x (kk most) = pr at *
  generalize bestN x (kk most) = pn at *
  generalize bestE x = pe at *
  have q1 : (pe == pe) = true := by simp
  have q2 : (pn == pn) = true := by simp
  have q4 : (pk == pk) = true := by simp
  have q5 : (pr == pr) = true := by simp
  go_upto_region 5 with (go_at_call 16; refine B1.out.mono ?_; rintro e w4 ⟨rfl, k4⟩; have K4 := Lib.hid k4; clear k4 B1)
  clear hd
  have C1 := Lib.hid (part_cells w4 pk pr 25)
  have K5 := Lib.hid (K4.out.alloc (.cells #[.int .i64 pk, .bool pr] 25))
  generalize w4.alloc (.cells #[.int .i64 pk, .bool pr] 25) = w5 at *
  generalize w4.heap.size = g1 at *
  go_upto_region 6 with (go_at_call 17; refine (B2.out _ K5.out).mono ?_; rintro e w6 ⟨rfl, k6⟩; have K6 := Lib.hid k6; clear k6 B2)
  obtain ⟨c1, c2, -⟩ := C1.out _ (K6.out.alloc (.cells #[.int .i64 pk, .bool pr] 25))
  obtain ⟨d1, d2, -⟩ := part_cells w6 pk pr 25 _ (Kept.refl _ _)
  have K7 := Lib.hid (nix_trans K5.out (K6.out.alloc (.cells #[.int .i64 pk, .bool pr] 25)))
  generalize w6.alloc (.cells #[.int .i64 pk, .bool pr] 25) = w7 at *
  generalize w6.heap.size = g2 at *
  clear C1 K5 K6 K4
  go_wp2
  go_ret
  exact ⟨rfl, nix_trans K1.out K7.out⟩

end Go.Proofs.Ytpbfmbmdagpmpaa
