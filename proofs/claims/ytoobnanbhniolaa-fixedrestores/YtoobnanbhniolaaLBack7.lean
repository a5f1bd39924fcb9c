/- The walk of FixedBack. -/
import Derived.Test.YtoobnanbhniolaaLTells7
namespace Go.Proofs.Ytoobnanbhniolaa
open Go.RowKit Bx

/-- A slice of integers up to k. -/
theorem run_upto_i (w : World) (ao : Option Addr) (len cap k : Nat) (h : k ≤ cap) : (Instr.slice 22 (.slice ao len cap) none (some (.int .i64 (k : Int))) none).run Try.prog w = .ok (.slice ao k cap) w := by
  have ht : Try.prog.underlying 22 = some (.slice (Try.prog.elem 22)) := by rw [elem_ints]; exact Try.underlying22
  rw [run_slice_h w 22 ao len cap ht .i64 (k : Int) (by omega) (by omega), elem_ints, size_int]
  cases ao with
  | none => simp [sliced]
  | some a => simp [sliced, Addr.add]

theorem run_upto_i_at (w : World) (ao : Option Addr) (len cap k : Nat) (h : k ≤ cap) : (Instr.sliceAt 22 (.slice ao len cap) none (some (.int .i64 (k : Int))) none).run Try.prog w = .ok (.slice ao k cap) w := by
  have ht : Try.prog.underlying 22 = some (.slice (Try.prog.elem 22)) := by rw [elem_ints]; exact Try.underlying22
  rw [run_sliceAt_slice w 22 _ _ _ _ ht, run_upto_i w ao len cap k h]

theorem sl_take_i {w : World} {ao : Option Addr} {len cap : Nat} {zs : List Int} (h : Sl w (.slice ao len cap) (ivs zs)) (k : Nat) (hk : k ≤ len) : Sl w (.slice ao k cap) (ivs (zs.take k)) := by
  rw [← ivs_take]
  exact h.take k hk

theorem back_nums (n k : Nat) (h4 : k ≤ 4) (hk : k ≤ n) (hl : n < 1099511627776) : wrap64 ((n : Int) - (k : Int)) = ((n - k : Nat) : Int) := by unfold wrap64; omega

set_option maxHeartbeats 2000000 in
theorem walk_FixedBack (w : World) (v : Value) (zs : List Int) (hs : Sl w v (zs.map (Value.int .i64))) (_ : ∀ n ∈ zs, (Lit.int .i64 n).wf = true) (order : Int) (_ : (Lit.int .i64 order).wf = true) :
    Calls Try.prog 5 #[v, .int .i64 order] w fun e w' => e = .returned (.bool true) ∧ Kept Nix w w' := by
  have HA := awake_any w
  obtain ⟨ao, cap, rfl, hcp, hcm, _⟩ := hs.ints
  have HS := Lib.hid (sl_ivs hs)
  have HCP := Lib.hid hcp
  clear hs hcp hcm
  go_enter Try.func5, Try.ntmps5
  go_upto_region 3 with (first
    | (go_at_call 9; refine HA.mono ?_; rintro e w1 ⟨rfl, k1⟩; have K1 := Lib.hid k1; clear k1; have NR := Lib.hid (rnear_any _ zs w1 (HS.out.nix K1.out)))
    | (go_at_call 10; refine NR.out.mono ?_; rintro e w2 ⟨rfl, rfl⟩; clear NR))
  by_cases hlen : 100 < zs.length
  · have hd : decide ((100 : Int) < (zs.length : Int)) = true := decide_eq_true (by omega)
    clear hlen
    go_wp2
    go_ret
    exact ⟨rfl, K1.out⟩
  · have hd : decide ((100 : Int) < (zs.length : Int)) = false := decide_eq_false (by omega)
    have HL := Lib.hid (show zs.length < 1099511627776 by omega)
    cases hn : near zs with
    | false =>
      clear hlen
      go_wp2
      go_ret
      exact ⟨rfl, K1.out⟩
    | true =>
      have HB := Lib.hid (near_bd hn)
      clear hlen hn
      have R1 := Lib.hid (res_any _ zs order w2 (HS.out.nix K1.out) HL.out HB.out)
      by_cases h1 : order < 0 ∨ 4 < order
      · have hE := resE_arg zs.length h1
        have hL : resL zs order = [] := resL_bad (by rw [hE]; decide)
        have HE := Lib.hid hE
        have HLL := Lib.hid hL
        clear hE hL
        by_cases h2 : order < 0
        · have d1 : decide (order < 0) = true := decide_eq_true h2
          have d2 : decide (0 ≤ order) = false := decide_eq_false (by omega)
          clear h1 h2
          go_wp2_with (go_at_call 11; refine R1.out.mono ?_; rintro e w3 ⟨u3, rfl, ho3, hk3⟩; rw [HE.out]; rw [HLL.out] at ho3; have K3 := Lib.hid (nix_trans K1.out hk3); obtain ⟨ao3, cap3, rfl, _, _⟩ := owns_shape ho3; clear ho3 hk3 R1)
          go_ret
          exact ⟨rfl, K3.out⟩
        · have d1 : decide (order < 0) = false := decide_eq_false h2
          have d2 : decide (4 < order) = true := decide_eq_true (by omega)
          have d3 : decide (0 ≤ order) = true := decide_eq_true (by omega)
          have d4 : decide (order ≤ 4) = false := decide_eq_false (by omega)
          clear h1 h2
          go_wp2_with (go_at_call 11; refine R1.out.mono ?_; rintro e w3 ⟨u3, rfl, ho3, hk3⟩; rw [HE.out]; rw [HLL.out] at ho3; have K3 := Lib.hid (nix_trans K1.out hk3); obtain ⟨ao3, cap3, rfl, _, _⟩ := owns_shape ho3; clear ho3 hk3 R1)
          go_ret
          exact ⟨rfl, K3.out⟩
      · obtain ⟨k, rfl⟩ := Int.eq_ofNat_of_zero_le (show 0 ≤ order by omega)
        have d1 : decide ((k : Int) < 0) = false := decide_eq_false (by omega)
        have d2 : decide ((4 : Int) < (k : Int)) = false := decide_eq_false (by omega)
        have d3 : decide ((0 : Int) ≤ (k : Int)) = true := decide_eq_true (by omega)
        have d4 : decide ((k : Int) ≤ 4) = true := decide_eq_true (by omega)
        by_cases h2 : (zs.length : Int) < (k : Int)
        · have hE := resE_short h1 h2
          have hL : resL zs (k : Int) = [] := resL_bad (by rw [hE]; decide)
          have HE := Lib.hid hE
          have HLL := Lib.hid hL
          have d5 : decide (zs.length < k) = true := decide_eq_true (by omega)
          clear hE hL h1 h2
          go_wp2_with (go_at_call 11; refine R1.out.mono ?_; rintro e w3 ⟨u3, rfl, ho3, hk3⟩; rw [HE.out]; rw [HLL.out] at ho3; have K3 := Lib.hid (nix_trans K1.out hk3); obtain ⟨ao3, cap3, rfl, _, _⟩ := owns_shape ho3; clear ho3 hk3 R1)
          go_ret
          exact ⟨rfl, K3.out⟩
        · have hk4 : k ≤ 4 := by omega
          have hkl : k ≤ zs.length := by omega
          have HE := Lib.hid (resE_ok (n := zs.length) hk4 hkl)
          have HLL := Lib.hid (resL_ok hk4 hkl)
          have hwn := back_nums zs.length k hk4 hkl HL.out
          have HDN := Lib.hid (dn_length k zs)
          have HK4 := Lib.hid hk4
          have HKL := Lib.hid hkl
          have hkc : (k : Int) ≤ (cap : Int) := by have := HCP.out; omega
          have HWN := Lib.hid hwn
          clear h1 h2 hk4 hkl hwn d1 d2 d3 d4
          generalize hnk : zs.length - k = nk at *
          have HNK := Lib.hid hnk
          have hne : ((nk : Int) != (nk : Int)) = false := bne_self_eq_false _
          clear hnk
          go_upto_region 10 with (go_at_call 11; refine R1.out.mono ?_; rintro e w3 ⟨u3, rfl, ho3, hk3⟩; rw [HE.out]; rw [HLL.out, HDN.out] at ho3; have HO3 := Lib.hid ho3; have K3 := Lib.hid (nix_trans K1.out hk3); obtain ⟨ao3, cap3, rfl, _, _⟩ := owns_shape ho3; have hwn := HWN.out; clear ho3 hk3 R1)
          have hf1 := fun w => run_upto_i w ao zs.length cap k (Nat.le_trans HKL.out HCP.out)
          have hf2 := fun w => run_upto_i_at w ao zs.length cap k (Nat.le_trans HKL.out HCP.out)
          have RS := Lib.hid (rst_any k zs _ _ w3 HK4.out HKL.out HL.out HB.out (sl_take_i (HS.out.nix K3.out) k HKL.out) (sl_of_owns HO3.out))
          go_wp2_with (first
            | (go_at_call 17; refine RS.out.mono ?_; rintro e w4 ⟨u4, rfl, ho4, hk4⟩; have K4 := Lib.hid (nix_trans K3.out hk4); have I1 := Lib.hid (ints_eq (sl_of_owns ho4) (HS.out.nix K4.out) HL.out rfl); clear ho4 hk4 RS)
            | (go_at_call 13; refine I1.out.mono ?_; rintro e w5 ⟨rfl, nn, rfl⟩; have K5 := Lib.hid (K4.out.drewN nn); clear I1; generalize w4.drewN nn = w5 at *))
          go_ret
          exact ⟨rfl, K5.out⟩

end Go.Proofs.Ytoobnanbhniolaa
