/- The walk of SolveOne. -/
import Derived.Test.YtdifaaimjiflgaaAwake10
import Derived.Test.YtdifaaimjiflgaaArgs
namespace Go.Proofs.Ytdifaaimjiflgaa
open Go.RowKit Bx

theorem low_small {zs : List Int} (h0 : 0 ≤ zs.getD 0 0) (h1 : zs.getD 0 0 < 1073741824) : low zs = zs := by
  have e : lowBy zs = 0 := by unfold lowBy; rw [show zs.getD 0 0 / 1073741824 = 0 by omega]; rfl
  unfold low dv
  rw [e]
  simp

theorem rt_two (a b : Int) (h0 : 0 ≤ a) (h1 : a ≤ 4611686018427387904) (hb : -a ≤ b ∧ b ≤ a) : Rt [a, b] := by
  refine .inr ⟨h0, h1, fun i hi => ?_⟩
  match i, hi with
  | 0, _ => simp; omega
  | 1, _ => simpa using hb

theorem sol_two (a b : Int) (h0 : 1 ≤ a) (h1 : a < 1073741824) (hb : -a ≤ b ∧ b ≤ a) : sol [a, b] 1 = if b = a ∨ b = -a then [] else [[(b * 1048576).tdiv a]] := by
  have hq : quoOf [a, b] [] a = (b * 1048576).tdiv a := by simp [quoOf, usum, fore, sumTo]
  unfold sol
  rw [if_neg (show ¬ [a, b].getD 0 0 < 1 by simp; omega), low_small (by simp; omega) (by simp; omega)]
  show slv [a, b] 1 [] a = _
  by_cases h : b = a ∨ b = -a
  · rw [if_pos h]
    apply slv_end
    rw [hq]
    rcases h with rfl | rfl
    · right
      rw [Int.mul_tdiv_cancel_left _ (by omega)]
      decide
    · left
      rw [Int.neg_mul, Int.neg_tdiv, Int.mul_tdiv_cancel_left _ (by omega)]
      decide
  · rw [if_neg h]
    have hlt : -1048576 < (b * 1048576).tdiv a ∧ (b * 1048576).tdiv a < 1048576 := by
      have h2 : ((b * 1048576).tdiv a).natAbs < 1048576 := by
        rw [Int.natAbs_tdiv]
        apply Nat.div_lt_of_lt_mul
        rw [Int.natAbs_mul]
        exact Nat.mul_lt_mul_of_pos_right (by omega) (by decide)
      omega
    rw [← hq] at hlt ⊢
    have hw : within (ext [] (quoOf [a, b] [] a)) = true := by
      rw [within_iff]
      intro f hf
      have : f = quoOf [a, b] [] a := by simpa [ext, exts] using hf
      omega
    have he := (les_nums a (quoOf [a, b] [] a) ⟨h0, by omega⟩ hlt).2.2.2.1
    rw [slv_step [a, b] [] a 0 hlt hw he]
    simp [ext, exts, slv]

theorem one_nums (p : Nat) (s : Int) : ∃ a : Nat, (p : Int) % 1073741823 + 1 = (a : Int) ∧ p % 1073741823 + 1 = a ∧ 1 ≤ a ∧ a ≤ 1073741823 ∧ s.tmod ((a : Int) + 1) ≤ (a : Int) ∧ -(a : Int) ≤ s.tmod ((a : Int) + 1) := by
  refine ⟨p % 1073741823 + 1, by omega, rfl, by omega, by omega, ?_, ?_⟩
  · have := Int.tmod_lt_of_pos s (show (0 : Int) < ((p % 1073741823 + 1 : Nat) : Int) + 1 by omega)
    omega
  · have h4 := Int.tmod_lt_of_pos (-s) (show (0 : Int) < ((p % 1073741823 + 1 : Nat) : Int) + 1 by omega)
    rw [Int.neg_tmod] at h4
    omega

set_option maxHeartbeats 2000000 in
theorem walk_SolveOne (w : World) (first : Int) (wf : (Lit.int .u32 first).wf = true) (s : Int) (ws : (Lit.int .i32 s).wf = true) :
    Calls Try.prog 8 #[.int .u32 first, .int .i32 s] w fun e w' => e = .returned (.bool true) ∧ Kept Nix w w' := by
  have HA := awake_any w
  have h1 := bounds_u32 wf
  obtain ⟨p, rfl⟩ := Int.eq_ofNat_of_zero_le h1.1
  obtain ⟨a, n1, n2, n3, n4, n5, n6⟩ := one_nums p s
  have hs := bounds_i32 ws
  clear wf ws
  go_enter Try.func8, Try.ntmps8
  go_upto_region 4 with (go_at_call 9; refine HA.mono ?_; rintro e w1 ⟨rfl, k1⟩; have K1 := Lib.hid k1; clear k1)
  rw [show 1 + (p : Int) % 1073741823 = (a : Int) by omega]
  clear n1 n2 hs h1
  generalize s.tmod ((a : Int) + 1) = b at *
  have SO := Lib.hid (solve_any _ [(a : Int), b] 1 (w1.alloc (.cells (ivs [(a : Int), b]).toArray 3)) (sl_lit w1 [(a : Int), b] 2 rfl (by decide)) (rt_two _ _ (by omega) (by omega) ⟨n6, n5⟩) (by simp))
  have hst := sol_two (a : Int) b (by omega) (by omega) ⟨n6, n5⟩
  have K0 := Lib.hid (show Kept Nix w1 (w1.alloc (.cells (ivs [(a : Int), b]).toArray 3)) from (Kept.refl _ w1).alloc _)
  have hng : wrap64 (-(a : Int)) = -(a : Int) := w64_in _ (by omega)
  by_cases h : b = a ∨ b = -(a : Int)
  · rw [if_pos h] at hst
    have HB := Lib.hid h
    unfold SolPost at SO
    rw [hst] at SO
    clear hst h
    go_upto_region 5 with (go_at_call 12; refine SO.out.mono ?_; rintro e w2 ⟨u2, us2, rfl, r2, k2⟩; have K2 := Lib.hid (nix_trans K0.out k2); have S2 := Lib.hid r2.chs; clear SO r2 k2)
    obtain ⟨ao, ca, rfl, -, -, -⟩ := S2.out.open
    simp only [List.length_nil]
    rcases HB.out with rfl | rfl
    · have t1 : ((a : Int) == (a : Int)) = true := beq_self_eq_true _
      clear HB K0 S2
      go_wp2
      go_ret
      exact ⟨rfl, nix_trans K1.out K2.out⟩
    · have t1 : (-(a : Int) == (a : Int)) = false := beq_false_of_ne (by omega)
      have t2 : (-(a : Int) == -(a : Int)) = true := beq_self_eq_true _
      clear HB K0 S2
      go_wp2
      go_ret
      exact ⟨rfl, nix_trans K1.out K2.out⟩
  · rw [if_neg h] at hst
    have t1 : (b == (a : Int)) = false := beq_false_of_ne (fun e => h (.inl e))
    have t2 : (b == -(a : Int)) = false := beq_false_of_ne (fun e => h (.inr e))
    have hm : wrap64 (b * 1048576) = b * 1048576 ∧ IntKind.i64.wrap (b * 1048576) = b * 1048576 := ⟨w64_in _ (by omega), IntWalk.i64_in _ (by omega)⟩
    have hqb : ((b * 1048576).tdiv a).natAbs ≤ (b * 1048576).natAbs := by rw [Int.natAbs_tdiv]; exact Nat.div_le_self _ _
    have hd : wrap64 ((b * 1048576).tdiv a) = (b * 1048576).tdiv a ∧ IntKind.i64.wrap ((b * 1048576).tdiv a) = (b * 1048576).tdiv a := ⟨w64_in _ (by omega), IntWalk.i64_in _ (by omega)⟩
    obtain ⟨hm1, hm2⟩ := hm
    obtain ⟨hd1, hd2⟩ := hd
    have ha0 : ¬ a = 0 := by omega
    have HM := Lib.hid (And.intro hm2 (And.intro hd2 ha0))
    unfold SolPost at SO
    rw [hst] at SO
    clear hst h hqb n3 n4 n5 n6 hm1 hm2 hd1 hd2 ha0
    generalize hq : (b * 1048576).tdiv (a : Int) = q at *
    go_upto_region 7 with (go_at_call 12; refine SO.out.mono ?_; rintro e w2 ⟨u2, us2, rfl, r2, k2⟩; have K2 := Lib.hid (nix_trans K0.out k2); have S2 := Lib.hid r2.chs; clear SO r2 k2; obtain ⟨ao, ca, rfl, -, -, -⟩ := S2.out.open)
    clear t1 t2 hng
    obtain ⟨b1, o1, rfl, hb, A, C, hh⟩ := S2.out.at (by simp)
    obtain ⟨y0, s0⟩ := hh 0 (by simp)
    simp only [List.getD_cons_zero, Nat.add_zero] at y0 s0
    obtain ⟨b2, o2, he2, hc2⟩ := cell_kept (sl_ivs s0) 0 (by simp)
    have c2 := hc2 w2 (Kept.refl _ _)
    rw [he2] at y0
    simp only [List.getD_cons_zero, Nat.add_zero] at c2
    clear hh s0 he2 hc2 S2 hb K0
    simp only [List.length_cons, List.length_nil, Nat.zero_add] at y0 ⊢
    obtain ⟨hm2, hd2, ha0⟩ := HM.out
    have tq : (q == q) = true := beq_self_eq_true _
    generalize C 0 = cc at *
    go_quiet (fail)
    go_wp2
    go_ret
    exact ⟨rfl, nix_trans K1.out (K2.out.drewN _)⟩

end Go.Proofs.Ytdifaaimjiflgaa
