/- The walk of PartsWhole. -/
import Derived.Test.YtliggpidkdiinaaPk8
import Derived.Test.YtliggpidkdiinaaPk9
namespace Go.Proofs.Ytliggpidkdiinaa
open Go.RowKit Bx

set_option maxRecDepth 10000 in
set_option maxHeartbeats 4000000 in
theorem walk_PartsWhole (w : World) (v : Value) (x : List Int) (hx : Sl w v (x.map (Value.int .i64))) (_hw : ∀ n ∈ x, (Lit.int .i64 n).wf = true)
    (order : Int) (ho : (Lit.int .u8 order).wf = true) (most : Int) (hm : (Lit.int .u8 most).wf = true) :
    Calls Try.prog 6 #[v, .int .u8 order, .int .u8 most] w fun e w' => e = .returned (.bool true) ∧ Kept Nix w w' := by
  obtain ⟨K, J, h1, h2, r1, r2, r3, r4⟩ := law_mods ho hm
  obtain ⟨xo, xc, rfl, -⟩ := hx.ints
  have HX := Lib.hid (show Sl w (.slice xo x.length xc) (ivs x) from hx)
  have HA := Lib.hid (awake_any w)
  have HK := Lib.hid (And.intro h1 h2)
  clear hx _hw ho hm h1 h2
  go_enter Try.func6, Try.ntmps6
  go_upto_region 2 with (go_at_call 8; refine HA.out.mono ?_; rintro e w1 ⟨rfl, k1⟩; have K1 := Lib.hid k1; clear k1)
  clear HA
  have HN := Lib.hid (rnears_any _ x w1 (HX.out.nix K1.out))
  go_upto_region 3 with (go_at_call 13; refine HN.out.mono ?_; rintro e w2 ⟨rfl, rfl⟩; clear HN)
  by_cases hlen : 80 < x.length
  · have hd : decide ((80 : Int) < (x.length : Int)) = true := decide_eq_true (by omega)
    clear hlen
    go_wp2
    go_ret
    exact ⟨rfl, K1.out⟩
  have hd : decide ((80 : Int) < (x.length : Int)) = false := decide_eq_false (by omega)
  have HL := Lib.hid (show x.length ≤ 80 by omega)
  clear hlen
  by_cases h0 : x.length = 0
  · have t0 : ((x.length : Int) == 0) = true := by simp [h0]
    clear h0
    go_wp2
    go_ret
    exact ⟨rfl, K1.out⟩
  have t0 : ((x.length : Int) == 0) = false := by rw [beq_eq_false_iff_ne]; omega
  have H0 := Lib.hid (show 0 < x.length by omega)
  clear h0
  cases hn : nrs x with
  | false =>
    go_wp2
    go_ret
    exact ⟨rfl, K1.out⟩
  | true =>
    have C1 := Lib.hid (cbest_any _ x 14 w2 (HX.out.nix K1.out) (by have := HL.out; omega))
    rw [show kk 14 = 14 from rfl] at C1
    have hbe : bestE x = 0 := (best_near hn 14).2.2.2
    unfold bestV at C1
    rw [hbe] at C1
    have PB := Lib.hid (fun wide w' (h : Kept Nix w2 w') (o : Int) => pbest_any _ x (K : Int) o wide w' (HX.out.nix (nix_trans K1.out h)) (by have := HL.out; omega))
    unfold PBPost at PB
    obtain ⟨B, N2, N3, q1, q2, q3, q4, q5, q6, q7, q8, q9, q10⟩ := whole_nums HK.out.1 HK.out.2 H0.out HL.out hn
    have PB1 := Lib.hid (fun w' h => PB.out false w' h 0)
    have PB2 := Lib.hid (fun w' h => PB.out false w' h (J : Int))
    have PB3 := Lib.hid (fun w' h => PB.out true w' h (J : Int))
    rw [q1] at C1
    rw [q3, q8, q10] at PB1
    rw [q4, q9] at PB2
    rw [q5, q9] at PB3
    clear q1 q3 q4 q5 q8 q9 q10 PB hn hbe
    have t1 : decide (N2 ≤ B + 10) = true := decide_eq_true q6
    have t2 : decide (N3 ≤ N2) = true := decide_eq_true q7
    clear q6 q7
    generalize bestK x 14 = bk1 at *
    generalize bestR x 14 = br1 at *
    generalize pbW x (K : Int) 0 false = W1 at *
    generalize pbO x (K : Int) 0 false = O1 at *
    generalize pbP x (K : Int) 0 false = P1 at *
    generalize pbW x (K : Int) (J : Int) false = W2 at *
    generalize pbO x (K : Int) (J : Int) false = O2 at *
    generalize pbP x (K : Int) (J : Int) false = P2 at *
    generalize pbW x (K : Int) (J : Int) true = W3 at *
    generalize pbO x (K : Int) (J : Int) true = O3 at *
    generalize pbP x (K : Int) (J : Int) true = P3 at *
    generalize B + 10 = B1 at *
    go_upto_region 8 with (go_at_call 15; refine C1.out.mono ?_; rintro e w3 ⟨rfl, k3⟩; have K3 := Lib.hid (nix_trans k3 ((Kept.refl Nix w3).alloc (.cells #[.int .i64 bk1, .bool br1] 39))); clear k3 C1)
    generalize w3.alloc (.cells #[.int .i64 bk1, .bool br1] 39) = w4 at *
    have B1 := Lib.hid (PB1.out w4 K3.out)
    clear PB1
    go_upto_region 9 with (go_at_call 9; refine B1.out.mono ?_; rintro e w5 ⟨u1, rfl, o1, k5⟩; obtain ⟨u1o, u1c, rfl, -⟩ := owns_shape o1; have K5 := Lib.hid (nix_trans K3.out k5); clear k5 o1 B1)
    have H6 := Lib.hid (heap_alloc_new w5 (.cells #[.bool W1, .int .i64 O1, .slice u1o 1 u1c] 26))
    have K6 := Lib.hid (nix_trans K5.out ((Kept.refl Nix w5).alloc (.cells #[.bool W1, .int .i64 O1, .slice u1o 1 u1c] 26)))
    generalize w5.alloc (.cells #[.bool W1, .int .i64 O1, .slice u1o 1 u1c] 26) = w6 at *
    generalize w5.heap.size = g6 at *
    have B2 := Lib.hid (PB2.out w6 K6.out)
    clear PB2 K5 K3
    go_upto_region 10 with (go_at_call 9; refine B2.out.mono ?_; rintro e w7 ⟨u2, rfl, o2, k7⟩; obtain ⟨u2o, u2c, rfl, -⟩ := owns_shape o2; have K7 := Lib.hid k7; clear k7 o2 B2)
    have K8 := Lib.hid (nix_trans K7.out ((Kept.refl Nix w7).alloc (.cells #[.bool W2, .int .i64 O2, .slice u2o P2.length u2c] 26)))
    generalize w7.alloc (.cells #[.bool W2, .int .i64 O2, .slice u2o P2.length u2c] 26) = w8 at *
    have B3 := Lib.hid (PB3.out w8 (nix_trans K6.out K8.out))
    clear PB3 K7
    go_upto_region 11 with (go_at_call 9; refine B3.out.mono ?_; rintro e w9 ⟨u3, rfl, o3, k9⟩; obtain ⟨u3o, u3c, rfl, -⟩ := owns_shape o3; have K9 := Lib.hid k9; clear k9 o3 B3)
    have K10 := Lib.hid (nix_trans K8.out (nix_trans K9.out ((Kept.refl Nix w9).alloc (.cells #[.bool W3, .int .i64 O3, .slice u3o P3.length u3c] 26))))
    generalize w9.alloc (.cells #[.bool W3, .int .i64 O3, .slice u3o P3.length u3c] 26) = w10 at *
    obtain ⟨x0, x1, x2⟩ := cells_three (K10.out.heap H6.out id)
    have KE := Lib.hid (nix_trans K1.out (nix_trans K6.out K10.out))
    clear K8 K9 K10 H6 K6 HX
    go_wp2
    go_ret
    exact ⟨rfl, KE.out⟩

end Go.Proofs.Ytliggpidkdiinaa
