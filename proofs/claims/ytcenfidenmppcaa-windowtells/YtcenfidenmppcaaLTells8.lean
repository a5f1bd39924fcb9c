/- The walk of WindowTells. -/
import Derived.Test.YtcenfidenmppcaaAwake08
import Derived.Test.YtcenfidenmppcaaWinRWs
import Derived.Test.YtcenfidenmppcaaArgs
namespace Go.Proofs.Ytcenfidenmppcaa
open Go.RowKit Bx

theorem wsL_len (s n : Int) : (wsL s n).length < 1099511627776 := by
  by_cases h : wsE s n = 0
  · have h1 : n ≤ 65535 := by
      unfold wsE at h
      split at h
      · omega
      · split at h
        · omega
        · omega
    unfold wsL
    rw [if_pos h, wl_length]
    omega
  · rw [wsL_bad h]; decide

set_option maxHeartbeats 1000000 in
theorem walk_WindowTells (w : World) (s : Int) (_ : (Lit.int .i64 s).wf = true) (i : Int) (_ : (Lit.int .i64 i).wf = true) (n : Int) (wn : (Lit.int .i64 n).wf = true) (m : Int) (_ : (Lit.int .i64 m).wf = true) :
    Calls Try.prog 3 #[.int .i64 s, .int .i64 i, .int .i64 n, .int .i64 m] w fun e w' => e = .returned (.bool true) ∧ Kept Nix w w' := by
  have HA := awake_any w
  have hn : -9223372036854775808 ≤ n ∧ n ≤ 9223372036854775807 := by
    have := bounds_i64 wn
    exact this
  have W1 := Lib.hid (fun w => weight_any s i n w)
  have W2 := Lib.hid (fun w => rweight_any s i n w hn)
  have W3 := Lib.hid (fun w => weights_any s m w)
  have W4 := Lib.hid (fun w => rweights_any s m w)
  have HL := Lib.hid (wsL_len s m)
  clear wn hn
  generalize wgtV s i n = a at *
  generalize wgtE s i n = e at *
  have h1 : (a != a) = false := bne_self_eq_false _
  have h2 : (e != e) = false := bne_self_eq_false _
  go_enter Try.func3, Try.ntmps3
  go_upto_region 6 with (first
    | (go_at_call 9; refine HA.mono ?_; rintro e w1 ⟨rfl, k1⟩; have K1 := Lib.hid k1; clear k1)
    | (go_at_call 10; refine (W1.out _).mono ?_; rintro e w2 ⟨rfl, k2⟩; have K2 := Lib.hid (nix_trans K1.out k2); clear k2 W1)
    | (go_at_call 11; refine (W2.out _).mono ?_; rintro e w3 ⟨rfl, rfl⟩; clear W2))
  clear h1 h2
  by_cases c1 : 200 < m ∧ m ≤ 65535
  · have d1 : decide (200 < m) = true := decide_eq_true c1.1
    have d2 : decide (m ≤ 65535) = true := decide_eq_true c1.2
    clear c1
    go_wp2
    go_ret
    exact ⟨rfl, K2.out⟩
  · have W3 : Hid (∀ w, Calls Try.prog 12 #[.int .i64 s, .int .i64 m] w (fun e w' => ∃ u, e = .returned (.tuple #[u, .int .i64 (wsE s m)]) ∧ w'.ownsRow w.heap.size 3 1 u (wsL s m).length (ivs (wsL s m)) ∧ Kept Nix w w')) := W3
    have W4 : Hid (∀ w, Calls Try.prog 13 #[.int .i64 s, .int .i64 m] w (fun e w' => ∃ u, e = .returned (.tuple #[u, .int .i64 (wsE s m)]) ∧ w'.ownsRow w.heap.size 3 1 u (wsL s m).length (ivs (wsL s m)) ∧ Kept Nix w w')) := W4
    generalize wsL s m = L at *
    generalize wsE s m = E at *
    have hEE : (E == E) = true := beq_self_eq_true E
    by_cases c2 : 200 < m
    · have d1 : decide (200 < m) = true := decide_eq_true c2
      have d2 : decide (m ≤ 65535) = false := decide_eq_false (by omega)
      clear c1 c2
      go_wp2_with (first
        | (go_at_call 12; refine (W3.out _).mono ?_; rintro e w4 ⟨u4, rfl, o4, k4⟩; have O4 := Lib.hid o4; have K4 := Lib.hid (nix_trans K2.out k4); clear o4 k4 W3)
        | (go_at_call 13; refine (W4.out _).mono ?_; rintro e w5 ⟨u5, rfl, o5, k5⟩; have K5 := Lib.hid (nix_trans K4.out k5); have I1 := Lib.hid (ints_eq ((sl_of_owns O4.out).nix k5) (sl_of_owns o5) HL.out rfl); clear o5 k5 W4)
        | (go_at_call 14; refine I1.out.mono ?_; rintro e w6 ⟨rfl, nn, rfl⟩; have K6 := Lib.hid (K5.out.drewN nn); clear I1; generalize w5.drewN nn = w6 at *))
      go_ret
      exact ⟨rfl, K6.out⟩
    · have d1 : decide (200 < m) = false := decide_eq_false c2
      clear c1 c2
      go_wp2_with (first
        | (go_at_call 12; refine (W3.out _).mono ?_; rintro e w4 ⟨u4, rfl, o4, k4⟩; have O4 := Lib.hid o4; have K4 := Lib.hid (nix_trans K2.out k4); clear o4 k4 W3)
        | (go_at_call 13; refine (W4.out _).mono ?_; rintro e w5 ⟨u5, rfl, o5, k5⟩; have K5 := Lib.hid (nix_trans K4.out k5); have I1 := Lib.hid (ints_eq ((sl_of_owns O4.out).nix k5) (sl_of_owns o5) HL.out rfl); clear o5 k5 W4)
        | (go_at_call 14; refine I1.out.mono ?_; rintro e w6 ⟨rfl, nn, rfl⟩; have K6 := Lib.hid (K5.out.drewN nn); clear I1; generalize w5.drewN nn = w6 at *))
      go_ret
      exact ⟨rfl, K6.out⟩

end Go.Proofs.Ytcenfidenmppcaa
