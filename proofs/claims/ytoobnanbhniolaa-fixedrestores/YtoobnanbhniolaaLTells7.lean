/- The walk of FixedTells. -/
import Derived.Test.YtoobnanbhniolaaAwake07
import Derived.Test.YtoobnanbhniolaaArgs
namespace Go.Proofs.Ytoobnanbhniolaa
open Go.RowKit Bx

theorem sl_ivs {w : World} {v : Value} {zs : List Int} (h : Sl w v (zs.map (Value.int .i64))) : Sl w v (ivs zs) := h
theorem sl_len {w : World} {v : Value} {zs : List Int} (h : Sl w v (ivs zs)) : zs.length ≤ 9223372036854775807 := by
  obtain ⟨_, _, _, h1, h2, _⟩ := h.ints
  simp only [maxLen] at h2
  omega

theorem resL_len (zs : List Int) (o : Int) : (resL zs o).length ≤ zs.length := by
  unfold resL
  split
  · rw [dn_length]; omega
  · simp

theorem fac_len (n : Nat) : (fac n).length ≤ 4 := by
  unfold fac
  split <;> simp

set_option maxHeartbeats 2000000 in
theorem walk_FixedTells (w : World) (v : Value) (zs : List Int) (hs : Sl w v (zs.map (Value.int .i64))) (_ : ∀ n ∈ zs, (Lit.int .i64 n).wf = true) (order : Int) (_ : (Lit.int .i64 order).wf = true) :
    Calls Try.prog 3 #[v, .int .i64 order] w fun e w' => e = .returned (.bool true) ∧ Kept Nix w w' := by
  have HA := awake_any w
  obtain ⟨ao, cap, rfl, _⟩ := hs.ints
  have HS := Lib.hid (sl_ivs hs)
  clear hs
  go_enter Try.func3, Try.ntmps3
  go_upto_region 3 with (first
    | (go_at_call 9; refine HA.mono ?_; rintro e w1 ⟨rfl, k1⟩; have K1 := Lib.hid k1; clear k1; have NR := Lib.hid (rnear_any _ zs w1 (HS.out.nix K1.out)))
    | (go_at_call 10; refine NR.out.mono ?_; rintro e w2 ⟨rfl, rfl⟩; clear NR))
  by_cases hlen : 100 < zs.length
  · have hd : decide ((100 : Int) < (zs.length : Int)) = true := decide_eq_true (by omega)
    clear hlen
    go_wp2
    go_ret
    exact ⟨rfl, K1.out⟩
  · have hd : decide ((100 : Int) < (zs.length : Int)) = false := decide_eq_false (by omega)
    have HL := Lib.hid (show zs.length < 1099511627776 by omega)
    cases hn : near zs with
    | false =>
      clear hlen
      go_wp2
      go_ret
      exact ⟨rfl, K1.out⟩
    | true =>
      have HB := Lib.hid (near_bd hn)
      clear hlen hn
      have R1 := Lib.hid (res_any _ zs order w2 (HS.out.nix K1.out) HL.out HB.out)
      have HLR := Lib.hid (Nat.lt_of_le_of_lt (resL_len zs order) HL.out)
      have HLF := Lib.hid (Nat.lt_of_le_of_lt (fac_len order.toNat) (show 4 < 1099511627776 by decide))
      generalize hE : resE zs.length order = E at *
      have HE := Lib.hid hE
      have hEE : (E == E) = true := beq_self_eq_true E
      go_wp2_with (first
        | (go_at_call 11; refine R1.out.mono ?_; rintro e w3 ⟨u3, rfl, ho3, hk3⟩; rw [HE.out]; have HO3 := Lib.hid ho3; have K3 := Lib.hid (nix_trans K1.out hk3); clear ho3 hk3 R1
           have R2 := Lib.hid (rres_any _ zs order w3 (HS.out.nix K3.out) HL.out HB.out))
        | (go_at_call 12; refine R2.out.mono ?_; rintro e w4 ⟨u4, rfl, ho4, hk4⟩; rw [HE.out]; have K4 := Lib.hid (nix_trans K3.out hk4); have I1 := Lib.hid (ints_eq ((sl_of_owns HO3.out).nix hk4) (sl_of_owns ho4) HLR.out rfl); clear ho4 hk4 R2)
        | (go_at_call 13; refine I1.out.mono ?_; rintro e w5 ⟨rfl, nn, rfl⟩; have K5 := Lib.hid (K4.out.drewN nn); clear I1; generalize w4.drewN nn = w5 at *)
        | (go_at_call 14; refine (factors_any order w5).mono ?_; rintro e w6 ⟨u6, rfl, ho6, hk6⟩; have HO6 := Lib.hid ho6; have K6 := Lib.hid (nix_trans K5.out hk6); clear ho6 hk6)
        | (go_at_call 15; refine (rfac_any order w6).mono ?_; rintro e w7 ⟨u7, rfl, ho7, hk7⟩; have K7 := Lib.hid (nix_trans K6.out hk7); have I2 := Lib.hid (ints_eq ((sl_of_owns HO6.out).nix hk7) (sl_of_owns ho7) HLF.out rfl); clear ho7 hk7)
        | (go_at_call 13; refine I2.out.mono ?_; rintro e w8 ⟨rfl, n8, rfl⟩; have K8 := Lib.hid (K7.out.drewN n8); clear I2; generalize w7.drewN n8 = w8 at *))
      go_ret
      exact ⟨rfl, K8.out⟩

end Go.Proofs.Ytoobnanbhniolaa
