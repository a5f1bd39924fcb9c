/- The walk of PartsLeast. -/
import Derived.Test.YtliggpidkdiinaaAwake14
import Derived.Test.YtliggpidkdiinaaPartNums
namespace Go.Proofs.Ytliggpidkdiinaa
open Go.RowKit Bx

theorem least_tests {X N o : Int} {J : Nat} (h : X < 0 ∨ (J : Int) < o ∨ N ≤ X) : decide (X < 0) = true ∨ (decide (X < 0) = false ∧ decide ((J : Int) < o) = true) ∨ (decide (X < 0) = false ∧ decide ((J : Int) < o) = false ∧ decide (N ≤ X) = true) := by
  simp only [decide_eq_true_eq, decide_eq_false_iff_not]
  omega

set_option maxRecDepth 10000 in
set_option maxHeartbeats 4000000 in
theorem walk_PartsLeast (w : World) (v : Value) (x : List Int) (hx : Sl w v (x.map (Value.int .i64))) (_hw : ∀ n ∈ x, (Lit.int .i64 n).wf = true)
    (order : Int) (ho : (Lit.int .u8 order).wf = true) (most : Int) (hm : (Lit.int .u8 most).wf = true) (wd : Bool) (o : Int) (_hwo : (Lit.int .i64 o).wf = true) (u : Value) (ps : List (Int × Bool)) (hp : Pts w u ps) :
    Calls Try.prog 5 #[v, .int .u8 order, .int .u8 most, .agg #[.bool wd, .int .i64 o, u]] w fun e w' => e = .returned (.bool true) ∧ Kept Nix w w' := by
  obtain ⟨K, J, h1, h2, r1, r2, r3, r4⟩ := law_mods ho hm
  obtain ⟨xo, xc, rfl, -⟩ := hx.ints
  obtain ⟨uo, uc, rfl, hp⟩ := hp.len
  have HX := Lib.hid (show Sl w (.slice xo x.length xc) (ivs x) from hx)
  have HP := Lib.hid hp
  have HA := Lib.hid (fun w' => awake_any w')
  have HK := Lib.hid (And.intro h1 h2)
  have H7 := Lib.hid (heap_alloc_new w (.cells #[.bool wd, .int .i64 o, .slice uo ps.length uc] 26))
  have K7 := Lib.hid ((Kept.refl Nix w).alloc (.cells #[.bool wd, .int .i64 o, .slice uo ps.length uc] 26))
  clear hx _hw ho hm _hwo hp h1 h2
  generalize hpl : ps.length = pl at *
  clear hpl
  go_enter Try.func5, Try.ntmps5
  go_upto_region 1 with fail
  generalize w.alloc (.cells #[.bool wd, .int .i64 o, .slice uo pl uc] 26) = w0 at *
  generalize w.heap.size = g7 at *
  have A0 := Lib.hid (HA.out w0)
  clear HA
  go_upto_region 2 with (go_at_call 8; refine A0.out.mono ?_; rintro e w1 ⟨rfl, k1⟩; have K1 := Lib.hid (nix_trans K7.out k1); have H1 := Lib.hid (k1.heap H7.out id); clear k1)
  clear A0 H7 K7
  have HN := Lib.hid (rnears_any _ x w1 (HX.out.nix K1.out))
  go_upto_region 3 with (go_at_call 13; refine HN.out.mono ?_; rintro e w2 ⟨rfl, rfl⟩; clear HN)
  by_cases hlen : 80 < x.length
  · have hd : decide ((80 : Int) < (x.length : Int)) = true := decide_eq_true (by omega)
    clear hlen
    go_wp2
    go_ret
    exact ⟨rfl, K1.out⟩
  have hd : decide ((80 : Int) < (x.length : Int)) = false := decide_eq_false (by omega)
  have HL := Lib.hid (show x.length ≤ 80 by omega)
  clear hlen
  by_cases h0 : x.length = 0
  · have t0 : ((x.length : Int) == 0) = true := by simp [h0]
    clear h0
    go_wp2
    go_ret
    exact ⟨rfl, K1.out⟩
  have t0 : ((x.length : Int) == 0) = false := by rw [beq_eq_false_iff_ne]; omega
  have H0 := Lib.hid (show 0 < x.length by omega)
  clear h0
  cases hn : nrs x with
  | false =>
    go_wp2
    go_ret
    exact ⟨rfl, K1.out⟩
  | true =>
    have B1 := Lib.hid (pbest_any _ x (K : Int) (J : Int) true w2 (HX.out.nix K1.out) (by have := HL.out; omega))
    unfold PBPost at B1
    obtain ⟨q1, q2⟩ := least_best (wide := true) HK.out.1 HK.out.2 H0.out hn
    have q3 := (pb_told HK.out.1 HK.out.2 H0.out hn true).1
    have q4 := least_plan HK.out.1 HK.out.2 H0.out hn o wd ps
    rw [q3] at B1
    have BI := Lib.hid (fun wd o vp ps w' (h : Kept Nix w w') hp => pbits_any _ x (K : Int) o wd vp ps w' (HX.out.nix h) hp (by have := HL.out; omega) (by have := HK.out.1; omega))
    have BB := Lib.hid (fun vp w' (h : Kept Nix w w') hp => BI.out (pbW x (K : Int) (J : Int) true) (pbO x (K : Int) (J : Int) true) vp (pbP x (K : Int) (J : Int) true) w' h hp)
    have BP := Lib.hid (fun vp w' (h : Kept Nix w w') hp => BI.out wd o vp ps w' h hp)
    rw [q1] at BB
    clear BI q1 q3 hn
    generalize pbits (pcz x (ctI x.length (K : Int) o)) ps (wM wd) (wA wd) = X at *
    generalize pbW x (K : Int) (J : Int) true = W1 at *
    generalize pbO x (K : Int) (J : Int) true = O1 at *
    generalize pbP x (K : Int) (J : Int) true = P1 at *
    generalize pbN x (K : Int) (J : Int) true = N1 at *
    have q4 := least_tests q4
    have t1 : (N1 != N1) = false := bne_self_eq_false _
    have t2 : decide ((J : Int) < O1) = false := decide_eq_false q2
    have Q4 := Lib.hid q4
    clear q2 q4
    go_upto_region 8 with (go_at_call 9; refine B1.out.mono ?_; rintro e w5 ⟨u1, rfl, o1, k5⟩; have T1 := Lib.hid (pts_of_owns o1); obtain ⟨u1o, u1c, rfl, -⟩ := owns_shape o1; have K5 := Lib.hid k5; clear k5 o1 B1)
    have H6 := Lib.hid (heap_alloc_new w5 (.cells #[.bool W1, .int .i64 O1, .slice u1o P1.length u1c] 26))
    have K56 := Lib.hid ((Kept.refl Nix w5).alloc (.cells #[.bool W1, .int .i64 O1, .slice u1o P1.length u1c] 26))
    generalize w5.alloc (.cells #[.bool W1, .int .i64 O1, .slice u1o P1.length u1c] 26) = w6 at *
    generalize w5.heap.size = g6 at *
    have K16 := Lib.hid (nix_trans K5.out K56.out)
    have BB6 := Lib.hid (BB.out _ w6 (nix_trans K1.out K16.out) (T1.out.nix K56.out))
    obtain ⟨x0, x1, x2⟩ := cells_three H6.out
    clear BB T1 K5 K56
    go_upto_region 10 with (go_at_call 14; refine BB6.out.mono ?_; rintro e w7 ⟨rfl, k7⟩; obtain ⟨y0, y1, y2⟩ := cells_three (k7.heap H6.out id); have K17 := Lib.hid (nix_trans K16.out k7); clear k7 BB6)
    clear x0 x1 x2 y0 y1 y2 H6 K16 t1 t2
    have BP7 := Lib.hid (BP.out _ w7 (nix_trans K1.out K17.out) (HP.out.nix (nix_trans K1.out K17.out)))
    have H7 := Lib.hid (K17.out.heap H1.out id)
    obtain ⟨x0, x1, x2⟩ := cells_three H7.out
    clear BP HP H1 HX
    go_upto_region 11 with (go_at_call 14; refine BP7.out.mono ?_; rintro e w8 ⟨rfl, k8⟩; have K8 := Lib.hid k8; clear k8 BP7)
    clear x0 x1 x2
    obtain ⟨y0, y1, y2⟩ := cells_three (K8.out.heap H7.out id)
    rcases Q4.out with t1 | ⟨t1, t2⟩ | ⟨t1, t2, t3⟩
    all_goals
      go_wp2
      go_ret
      exact ⟨rfl, nix_trans K1.out (nix_trans K17.out K8.out)⟩

end Go.Proofs.Ytliggpidkdiinaa
