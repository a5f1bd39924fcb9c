/- The walk of LagsOrders. -/
import Derived.Test.YtheleifichacjaaAwake09
import Derived.Test.YtheleifichacjaaLagOrd
import Derived.Test.YtheleifichacjaaArgs
namespace Go.Proofs.Ytheleifichacjaa
open Go.RowKit Bx

theorem ord_nums (p q : Nat) : ∃ n m : Nat, min (p : Int) (q : Int) % 33 = (n : Int) ∧ (n : Int) + max (p : Int) (q : Int) % 9 = (m : Int) ∧ n ≤ 32 ∧ n ≤ m ∧ m ≤ 40 :=
  ⟨min p q % 33, min p q % 33 + max p q % 9, by omega, by omega, by omega, by omega, by omega⟩

set_option maxHeartbeats 2000000 in
theorem walk_LagsOrders (w : World) (vx : Value) (x : List Int) (hx : Sl w vx (x.map (Value.int .i64))) (_ : ∀ n ∈ x, (Lit.int .i64 n).wf = true) (a : Int) (wa : (Lit.int .u8 a).wf = true) (b : Int) (wb : (Lit.int .u8 b).wf = true) :
    Calls Try.prog 7 #[vx, .int .u8 a, .int .u8 b] w fun e w' => e = .returned (.bool true) ∧ Kept Nix w w' := by
  have HA := awake_any w
  obtain ⟨xo, xcap, rfl, hxc, -⟩ := hx.ints
  obtain ⟨p, rfl, hp⟩ := nat_u8 wa
  obtain ⟨q, rfl, hq⟩ := nat_u8 wb
  have HX := Lib.hid (sl_ivs hx)
  have HP := Lib.hid hp
  have HQ := Lib.hid hq
  clear hx wa wb hp hq hxc
  go_enter Try.func7, Try.ntmps7
  go_upto_region 3 with (first
    | (go_at_call 9; refine HA.mono ?_; rintro e w1 ⟨rfl, k1⟩; have K1 := Lib.hid k1; clear k1; have NR := Lib.hid (rnear_any _ x w1 (HX.out.nix K1.out)))
    | (go_at_call 10; refine NR.out.mono ?_; rintro e w2 ⟨rfl, rfl⟩; clear NR))
  clear HA
  by_cases hlen : 80 < x.length
  · have hd : decide ((80 : Int) < (x.length : Int)) = true := decide_eq_true (by omega)
    clear hlen
    go_wp2
    go_ret
    exact ⟨rfl, K1.out⟩
  have hd : decide ((80 : Int) < (x.length : Int)) = false := decide_eq_false (by omega)
  cases hn : near x with
  | false =>
    clear hlen
    go_wp2
    go_ret
    exact ⟨rfl, K1.out⟩
  | true =>
    have HB := Lib.hid (near_bd hn)
    have HLX := Lib.hid (show x.length ≤ 80 by omega)
    clear hlen hn
    generalize hl : x.length = l at *
    have HL := Lib.hid hl
    clear hl
    go_upto_region 7 with fail
    obtain ⟨n, m, n1, n2, n3, n4, n5⟩ := ord_nums p q
    rw [n1, n2]
    clear n1 n2 HP HQ
    have OR := Lib.hid (of_any _ x (n : Int) w2 (HX.out.nix K1.out) HB.out (by have := HLX.out; have := HL.out; omega))
    have OS := Lib.hid (fun w' (k : Kept Nix w2 w') => of_any _ x (m : Int) w' (HX.out.nix (nix_trans K1.out k)) HB.out (by have := HLX.out; have := HL.out; omega))
    have HT := Lib.hid (show (told x (m : Int)).take (many (n : Int)) = told x (n : Int) from lags_take _ _ _ (by rw [many_nat, many_nat]; omega))
    have HLE := Lib.hid (show many (n : Int) ≤ many (m : Int) by rw [many_nat, many_nat]; omega)
    have HTL := Lib.hid (show (told x (n : Int)).length < 1099511627776 by rw [told_length]; have := many_top (n : Int); omega)
    have hms : (1 : Int) + min (m : Int) 32 = ((many (m : Int) : Nat) : Int) := by rw [many_nat]; omega
    have hmt := many_top (m : Int)
    unfold OfPost at OR OS
    generalize told x (n : Int) = R at *
    generalize told x (m : Int) = S at *
    generalize many (n : Int) = lr at *
    generalize many (m : Int) = ls at *
    clear n3 n4 n5
    have hd1 : decide ((lr : Int) ≤ (ls : Int)) = true := decide_eq_true (by have := HLE.out; omega)
    have hd2 : decide (lr ≤ ls) = true := decide_eq_true HLE.out
    have hw : wrap64 (ls : Int) = (ls : Int) := by unfold wrap64; omega
    clear hmt
    go_upto_region 9 with (first
      | (go_at_call 14; refine OR.out.mono ?_; rintro e w3 ⟨u3, rfl, o3, k3⟩; obtain ⟨ao3, c3, rfl, -, -⟩ := owns_shape o3; have K3 := Lib.hid k3; have O3 := Lib.hid (sl_of_owns o3); clear o3 k3 OR)
      | (go_at_call 14; refine (OS.out _ K3.out).mono ?_; rintro e w4 ⟨u4, rfl, o4, k4⟩; obtain ⟨ao4, c4, rfl, c41, -⟩ := owns_shape o4; have K4 := Lib.hid (nix_trans K3.out k4); have O4 := Lib.hid (sl_of_owns o4); have P3 := Lib.hid (O3.out.nix k4); have C4 := Lib.hid c41; clear o4 k4 OS c41 O3))
    have hf1 := fun w => run_upto_i w ao4 ls c4 lr (Nat.le_trans HLE.out C4.out)
    have hf2 := fun w => run_upto_i_at w ao4 ls c4 lr (Nat.le_trans HLE.out C4.out)
    have I1 := Lib.hid (ints_eq (sl_take_i O4.out lr HLE.out) P3.out (by rw [HT.out]; exact HTL.out) HT.out)
    go_wp2_with (go_at_call 13; refine I1.out.mono ?_; rintro e w5 ⟨rfl, nn, rfl⟩; clear I1)
    go_ret
    exact ⟨rfl, nix_trans K1.out (K4.out.drewN nn)⟩

end Go.Proofs.Ytheleifichacjaa
