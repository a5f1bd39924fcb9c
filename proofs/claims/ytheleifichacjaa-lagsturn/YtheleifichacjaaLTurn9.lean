/- The walk of LagsTurn. -/
import Derived.Test.YtheleifichacjaaAwake09
import Derived.Test.YtheleifichacjaaLagTurn
import Derived.Test.YtheleifichacjaaAppZ
import Derived.Test.YtheleifichacjaaArgs
namespace Go.Proofs.Ytheleifichacjaa
open Go.RowKit Bx

def TuInv (v : Value) (x : List Int) (l n p q : Nat) (w : World) (a : Act) (w' : World) : Prop :=
  a.defers = [] ∧ a.tmps.size = 72 ∧ a.tmps[0]? = some v ∧ a.tmps[2]? = some (.int .u8 (p : Int)) ∧ a.tmps[3]? = some (.int .u8 (q : Int)) ∧ a.tmps[9]? = some (.bool true) ∧ a.tmps[11]? = some (.int .i64 (n : Int)) ∧
  ∃ (j : Nat) (z : Int), j ≤ l ∧ z = (l : Int) - 1 - (j : Int) ∧ a.tmps[13]? = some (.int .i64 z) ∧ ∃ u, a.tmps[12]? = some u ∧ w'.ownsRow w.heap.size 3 1 u j (ivs (x.reverse.take j)) ∧ Kept Nix w w'

theorem rev_take (x : List Int) (j m : Nat) (h : j + m + 1 = x.length) : x.reverse.take (j + 1) = x.reverse.take j ++ [x.getD m 0] := by
  have h1 : j < x.reverse.length := by rw [List.length_reverse]; omega
  rw [List.take_succ_eq_append_getElem h1]
  congr 2
  rw [List.getElem_reverse]
  simp [List.getD, show m < x.length by omega]
  congr 1
  omega

theorem pad_u8 (o : Nat) : ∃ n : Nat, (o : Int) % 20 = (n : Int) ∧ n ≤ 19 := ⟨o % 20, by omega, by omega⟩

set_option maxHeartbeats 4000000 in
theorem walk_LagsTurn (w : World) (vx : Value) (x : List Int) (hx : Sl w vx (x.map (Value.int .i64))) (_ : ∀ n ∈ x, (Lit.int .i64 n).wf = true) (order : Int) (wo : (Lit.int .u8 order).wf = true) (a : Int) (wa : (Lit.int .u8 a).wf = true) (b : Int) (wb : (Lit.int .u8 b).wf = true) :
    Calls Try.prog 5 #[vx, .int .u8 order, .int .u8 a, .int .u8 b] w fun e w' => e = .returned (.bool true) ∧ Kept Nix w w' := by
  have HA := awake_any w
  obtain ⟨xo, xcap, rfl, hxc, -⟩ := hx.ints
  obtain ⟨o, rfl, ho⟩ := nat_u8 wo
  obtain ⟨p, rfl, hp⟩ := nat_u8 wa
  obtain ⟨q, rfl, hq⟩ := nat_u8 wb
  have HX := Lib.hid (sl_ivs hx)
  have HO := Lib.hid ho
  have HP := Lib.hid hp
  have HQ := Lib.hid hq
  clear hx wo ho wa wb hp hq hxc
  go_enter Try.func5, Try.ntmps5
  go_upto_region 3 with (first
    | (go_at_call 9; refine HA.mono ?_; rintro e w1 ⟨rfl, k1⟩; have K1 := Lib.hid k1; clear k1; have NR := Lib.hid (rnear_any _ x w1 (HX.out.nix K1.out)))
    | (go_at_call 10; refine NR.out.mono ?_; rintro e w2 ⟨rfl, rfl⟩; clear NR))
  clear HA
  by_cases hlen : 60 < x.length
  · have hd : decide ((60 : Int) < (x.length : Int)) = true := decide_eq_true (by omega)
    clear hlen
    go_wp2
    go_ret
    exact ⟨rfl, K1.out⟩
  have hd : decide ((60 : Int) < (x.length : Int)) = false := decide_eq_false (by omega)
  cases hn : near x with
  | false =>
    clear hlen
    go_wp2
    go_ret
    exact ⟨rfl, K1.out⟩
  | true =>
    have HB := Lib.hid (near_bd hn)
    have HLX := Lib.hid (show x.length ≤ 60 by omega)
    clear hlen hn
    have HN0 := Lib.hid (World.ownsRow_nil w2 w2.heap.size 3 1)
    have S2 := Lib.hid (HX.out.nix K1.out)
    obtain ⟨n, n1, n2⟩ := ord_u8 o
    have HN := Lib.hid n2
    clear n2
    generalize hl : x.length = l at *
    have HL := Lib.hid hl
    clear hl
    have hw : wrap64 ((l : Int) - 1) = (l : Int) - 1 := by have := HLX.out; unfold wrap64; omega
    go_wp2
    clear hd n1
    refine wp_loop (TuInv (.slice xo l xcap) x l n p q w2) (fun a _ => (intOf (a.tmps.getD 13 undef) + 1).toNat) ?_ ?_
    · refine ⟨rfl, rfl, rfl, rfl, rfl, rfl, rfl, 0, (l : Int) - 1, Nat.zero_le _, by omega, ?_, _, rfl, HN0.out, Kept.refl _ _⟩
      first | rfl | (show some (Value.int IntKind.i64 _) = _; rw [hw])
    · clear HN0 hw
      rintro ⟨tm, df⟩ w3 ⟨rfl, hs, h0, h2, h3, h9, h11, j, z, hj, hz, h13, u, h12, hou, hkp⟩
      simp only at hs h0 h2 h3 h9 h11 h13 h12
      obtain ⟨f, hf, hg⟩ := fr_open hs
      have e0 := hg _ _ h0
      have e2 := hg _ _ h2
      have e3 := hg _ _ h3
      have e9 := hg _ _ h9
      have e11 := hg _ _ h11
      have e13 := hg _ _ h13
      have e12 := hg _ _ h12
      simp only [List.range, List.range.loop, List.map] at hf
      rw [e0, e2, e3, e9, e11, e13, e12] at hf
      clear e0 e2 e3 e9 e11 e13 e12 hg hs h0 h2 h3 h9 h11 h13 h12
      subst hf
      have HKP := Lib.hid hkp
      have HOU := Lib.hid hou
      clear hkp hou
      by_cases hlt : j < l
      · obtain ⟨m, rfl⟩ : ∃ m : Nat, z = (m : Int) := Int.eq_ofNat_of_zero_le (by omega)
        have hjm : j + m + 1 = l := by omega
        have hi1 : (m : Int) < (l : Int) := by omega
        have hi2 : decide (m < l) = true := decide_eq_true (by omega)
        have hd0 : decide (0 ≤ (m : Int)) = true := decide_eq_true (by omega)
        obtain ⟨b1, o1, rfl, hc1⟩ := cell_kept S2.out m (by rw [HL.out]; omega)
        have c1 := hc1 w3 HKP.out
        have HT := Lib.hid (rev_take x j m (by rw [HL.out]; exact hjm))
        have hw1 : wrap64 ((m : Int) - 1) = (m : Int) - 1 := by have := HLX.out; unfold wrap64; omega
        have HJM := Lib.hid hjm
        have HW1 := Lib.hid hw1
        clear hw1 hjm hlt hj hz hc1
        generalize x.getD m 0 = xi at *
        have O5 := Lib.hid (HOU.out.alloc (.cells #[.int .i64 xi] 3))
        go_wp2_with (refine wpList_app _ rfl _ _ 22 rfl w2.heap.size 3 (.int .i64 0) 1 8 Try.underlying22 info_int rfl (by decide) u _ _ rfl O5.out _ 1 1 [.int .i64 xi] rfl (src_one w3 _ _ rfl) (by have := HJM.out; have := HLX.out; unfold maxLen; omega) (by have := HJM.out; have := HLX.out; omega) (by have := HKP.out.size; simp; omega) ?_; intro v6 w6 o6 g6 n6; have K6 := Lib.hid (show Kept Nix w2 w6 from (HKP.out.alloc _).grown g6 (fun kk hkk => .inr (O5.out.lt kk hkk).1)); have O6 := Lib.hid o6; clear o6 g6 n6)
        refine ⟨⟨rfl, rfl, rfl, rfl, rfl, rfl, rfl, j + 1, (m : Int) - 1, by have := HJM.out; omega, by have := HJM.out; omega, ?_, v6, rfl, ?_, K6.out⟩, ?_⟩
        · first | rfl | (show some (Value.int IntKind.i64 _) = _; rw [HW1.out])
        · rw [HT.out, ivs_append]
          exact O6.out
        · first
            | (show ((m : Int) - 1 + 1).toNat < ((m : Int) + 1).toNat; omega)
            | (show (wrap64 ((m : Int) - 1) + 1).toNat < ((m : Int) + 1).toNat; rw [HW1.out]; omega)
      · have hjl : j = l := by omega
        subst hjl
        obtain rfl : z = -1 := by omega
        have ho := HOU.out
        rw [List.take_of_length_le (by rw [List.length_reverse]; exact Nat.le_of_eq HL.out)] at ho
        obtain ⟨pa, p1, p2⟩ := pad_u8 p
        obtain ⟨qa, q1, q2⟩ := pad_u8 q
        have hmk := fun w => make_int pa (by omega) w
        have PA := Lib.hid p2
        have QA := Lib.hid q2
        have HOT := Lib.hid ho
        have KX := Lib.hid (nix_trans K1.out HKP.out)
        have K4 := Lib.hid (show Kept Nix w3 (w3.alloc (.cells (ivs (List.replicate pa 0)).toArray 3)) from (Kept.refl _ w3).alloc _)
        have O4 := Lib.hid (lit_base w3 w3.heap.size (Nat.le_refl _) (List.replicate pa 0) pa (by simp) (by simp only [maxLen]; omega))
        have SR := Lib.hid (src_ivs (S2.out.nix (nix_trans HKP.out K4.out))).1
        clear p2 q2 ho hlt hj hz HOU
        generalize hw4 : w3.alloc (.cells (ivs (List.replicate pa 0)).toArray 3) = w4 at *
        go_upto_region 12 with (first
          | (refine wpList_app _ rfl _ _ 22 rfl w3.heap.size 3 (.int .i64 0) 1 8 Try.underlying22 info_int rfl (by decide) _ _ _ rfl O4.out xo _ xcap (ivs x) rfl SR.out (by have := PA.out; have := HLX.out; unfold maxLen; omega) (by have := PA.out; have := HLX.out; omega) K4.out.size ?_
             intro v5 w5 o5 g5 n5; have K5 := Lib.hid (show Kept Nix w3 w5 from K4.out.grown g5 (fun kk hkk => .inr (O4.out.lt kk hkk).1)); have O5 := Lib.hid o5; clear o5 g5 n5)
          | (refine wpList_app_z rfl _ _ rfl w3.heap.size _ _ _ rfl O5.out qa rfl (by have := QA.out; omega) (by have := PA.out; have := HLX.out; omega) K5.out.size ?_
             intro v6 w6 o6 g6 n6; have K6 := Lib.hid (show Kept Nix w3 w6 from K5.out.grown g6 (fun kk hkk => .inr (O5.out.lt kk hkk).1)); have O6 := Lib.hid o6; clear o6 g6 n6))
        have o6 := sl_of_owns O6.out
        rw [← ivs_append, ← ivs_append, show List.replicate pa 0 ++ x ++ List.replicate qa 0 = padz pa x qa from rfl] at o6
        have A1 := Lib.hid (of_any _ x (n : Int) w6 (HX.out.nix (nix_trans KX.out K6.out)) HB.out (by have := HLX.out; have := HL.out; omega))
        have A2 := Lib.hid (fun w' (k : Kept Nix w6 w') => of_any _ x.reverse (n : Int) w' ((sl_of_owns HOT.out).nix (nix_trans K6.out k)) (bd_reverse HB.out) (by rw [List.length_reverse]; have := HLX.out; have := HL.out; omega))
        have A3 := Lib.hid (fun w' (k : Kept Nix w6 w') => of_any _ (padz pa x qa) (n : Int) w' (o6.nix k) (bd_padz HB.out pa qa) (by rw [padz_length]; have := HLX.out; have := HL.out; have := PA.out; have := QA.out; omega))
        have HTL := Lib.hid (show (told x (n : Int)).length < 1099511627776 by rw [told_length]; have := many_top (n : Int); omega)
        unfold OfPost at A1 A2 A3
        rw [told_reverse HB.out] at A2
        rw [told_padz HB.out] at A3
        have KE := Lib.hid (nix_trans KX.out K6.out)
        clear o6 hmk p1 q1
        generalize told x (n : Int) = R at *
        generalize many (n : Int) = lr at *
        go_wp2_with (first
          | (go_at_call 14; refine A1.out.mono ?_; rintro e w7 ⟨u7, rfl, o7, k7⟩; have K7 := Lib.hid k7; have P7 := Lib.hid (sl_of_owns o7); clear o7 k7 A1)
          | (go_at_call 14; refine (A2.out _ K7.out).mono ?_; rintro e w8 ⟨u8, rfl, o8, k8⟩; have K8 := Lib.hid (nix_trans K7.out k8); have P8 := Lib.hid (P7.out.nix k8); have I1 := Lib.hid (ints_eq (sl_of_owns o8) P8.out HTL.out rfl); clear o8 k8 A2)
          | (go_at_call 13; refine I1.out.mono ?_; rintro e w9 ⟨rfl, nn, hw9⟩; have K9 := Lib.hid (show Kept Nix w6 w9 by rw [hw9]; exact K8.out.drewN nn); have P9 := Lib.hid (P8.out.nix (show Kept Nix w8 w9 by rw [hw9]; exact (Kept.refl _ w8).drewN nn)); clear I1 hw9)
          | (go_at_call 14; refine (A3.out _ K9.out).mono ?_; rintro e w10 ⟨u10, rfl, o10, k10⟩; have K10 := Lib.hid (nix_trans K9.out k10); have I2 := Lib.hid (ints_eq (sl_of_owns o10) (P9.out.nix k10) HTL.out rfl); clear o10 k10 A3)
          | (go_at_call 13; refine I2.out.mono ?_; rintro e w11 ⟨rfl, n11, rfl⟩; clear I2))
        go_ret
        exact ⟨rfl, nix_trans KE.out (K10.out.drewN n11)⟩

end Go.Proofs.Ytheleifichacjaa
