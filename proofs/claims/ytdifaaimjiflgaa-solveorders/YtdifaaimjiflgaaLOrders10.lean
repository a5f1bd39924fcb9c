/- The walk of SolveOrders. -/
import Derived.Test.YtdifaaimjiflgaaAwake10
import Derived.Test.YtdifaaimjiflgaaArgs
namespace Go.Proofs.Ytdifaaimjiflgaa
open Go.RowKit Bx

theorem elem_rows : Try.prog.elem 26 = 22 := by kernel_rfl

theorem size_ints (w : World) : (sizeOf 22).run Try.prog w = .ok 1 w := by
  obtain ⟨i, hi, hz, hsize, hby⟩ := info_parts info_ints
  simp [sizeOf, typeInfo, hi, hsize]

theorem run_upto_r (w : World) (ao : Option Addr) (len cap k : Nat) (h : k ≤ cap) : (Instr.slice 26 (.slice ao len cap) none (some (.int .i64 (k : Int))) none).run Try.prog w = .ok (.slice ao k cap) w := by
  have ht : Try.prog.underlying 26 = some (.slice (Try.prog.elem 26)) := by rw [elem_rows]; exact Try.underlying26
  rw [run_slice_h w 26 ao len cap ht .i64 (k : Int) (by omega) (by omega), elem_rows, size_ints]
  cases ao with
  | none => simp [sliced]
  | some a => simp [sliced, Addr.add]

theorem run_upto_r_at (w : World) (ao : Option Addr) (len cap k : Nat) (h : k ≤ cap) : (Instr.sliceAt 26 (.slice ao len cap) none (some (.int .i64 (k : Int))) none).run Try.prog w = .ok (.slice ao k cap) w := by
  have ht : Try.prog.underlying 26 = some (.slice (Try.prog.elem 26)) := by rw [elem_rows]; exact Try.underlying26
  rw [run_sliceAt_slice w 26 _ _ _ _ ht, run_upto_r w ao len cap k h]

theorem chs_take {w : World} {ao : Option Addr} {len cap : Nat} {L : List (List Int)} (h : Chs w (.slice ao len cap) L) (k : Nat) (hk : k ≤ len) : Chs w (.slice ao k cap) (L.take k) := by
  obtain ⟨vs, h1, h2, h3⟩ := h
  have hl : len = vs.length := by
    obtain ⟨_, _, e, _⟩ := h1
    simp only [Value.slice.injEq] at e
    exact e.2.1
  refine ⟨vs.take k, h1.take k hk, by rw [List.length_take, List.length_take, h2], fun i hi => ?_⟩
  rw [List.length_take] at hi
  obtain ⟨u, hu, hs⟩ := h3 i (by omega)
  refine ⟨u, by rw [List.getElem?_take, if_pos (by omega)]; exact hu, ?_⟩
  rw [show (L.take k).getD i [] = L.getD i [] by simp only [List.getD_eq_getElem?_getD, List.getElem?_take, if_pos (show i < k by omega)]]
  exact hs

theorem sol_first (r : List Int) (n m : Nat) (hn : n ≤ 32) (hm : n ≤ m) : (sol r (n : Int)).length ≤ n ∧ (sol r (n : Int)).length ≤ (sol r (m : Int)).length ∧ (sol r (m : Int)).length ≤ min m 32 ∧ (sol r (m : Int)).take (sol r (n : Int)).length = sol r (n : Int) ∧ ((sol r (n : Int)).length < n → (sol r (m : Int)).length = (sol r (n : Int)).length) := by
  have h1 := sol_len r (n : Int)
  have h2 := sol_len r (m : Int)
  have o1 : ords r (n : Int) ≤ n ∧ ords r (m : Int) ≤ min m 32 ∧ ords r (n : Int) ≤ ords r (m : Int) ∧ (ords r (n : Int) < n → ords r (m : Int) = ords r (n : Int)) := by unfold ords; omega
  have ht : (sol r (m : Int)).take (ords r (n : Int)) = sol r (n : Int) := by
    unfold sol
    split
    · simp
    · exact slv_take _ _ _ _ _ o1.2.2.1
  have hl : (sol r (n : Int)).length = min (ords r (n : Int)) (sol r (m : Int)).length := by rw [← ht, List.length_take]
  refine ⟨by omega, by omega, by omega, ?_, fun h => by omega⟩
  rw [hl]
  conv => rhs; rw [← ht]
  rcases Nat.le_total (ords r (n : Int)) (sol r (m : Int)).length with h | h
  · rw [Nat.min_eq_left h]
  · rw [Nat.min_eq_right h, List.take_length, List.take_of_length_le h]

theorem sol_rows (r : List Int) (o : Int) (i : Nat) (h : i < (sol r o).length) : ((sol r o).getD i []).length = i + 1 ∧ within ((sol r o).getD i []) = true ∧ -1048576 < ((sol r o).getD i []).getD i 0 ∧ ((sol r o).getD i []).getD i 0 < 1048576 := by
  unfold sol at h ⊢
  split at h
  · simp at h
  · rename_i h1
    rw [if_neg h1]
    have := slv_rows (low r) (ords r o) [] ((low r).getD 0 0) i h
    simpa using this

theorem ord_nums (p q : Nat) : ∃ n m : Nat, min (p : Int) (q : Int) % 33 = (n : Int) ∧ (n : Int) + max (p : Int) (q : Int) % 9 = (m : Int) ∧ n ≤ 32 ∧ n ≤ m ∧ m ≤ 40 :=
  ⟨min p q % 33, min p q % 33 + max p q % 9, by omega, by omega, by omega, by omega, by omega⟩

def OrdO (vy : Value) (k : Nat) (w : World) (a : Act) (w' : World) : Prop :=
  a.defers = [] ∧ a.tmps.size = 142 ∧ a.tmps[7]? = some (.bool true) ∧ a.tmps[12]? = some vy ∧ ∃ i : Nat, i ≤ k ∧ a.tmps[13]? = some (.int .i64 (i : Int)) ∧ w' = w

def OrdI (vy : Value) (i : Nat) (w : World) (a : Act) (w' : World) : Prop :=
  a.defers = [] ∧ a.tmps.size = 142 ∧ a.tmps[7]? = some (.bool true) ∧ a.tmps[12]? = some vy ∧ a.tmps[13]? = some (.int .i64 (i : Int)) ∧ ∃ j : Nat, j ≤ i + 1 ∧ a.tmps[14]? = some (.int .i64 (j : Int)) ∧ w' = w

set_option maxRecDepth 10000 in
set_option maxHeartbeats 4000000 in
theorem walk_SolveOrders (w : World) (vx : Value) (x : List Int) (hx : Sl w vx (x.map (Value.int .i64))) (_ : ∀ n ∈ x, (Lit.int .i64 n).wf = true) (a : Int) (wa : (Lit.int .u8 a).wf = true) (b : Int) (wb : (Lit.int .u8 b).wf = true) :
    Calls Try.prog 5 #[vx, .int .u8 a, .int .u8 b] w fun e w' => e = .returned (.bool true) ∧ Kept Nix w w' := by
  have HA := awake_any w
  obtain ⟨xo, xcap, rfl, hxc, -⟩ := hx.ints
  obtain ⟨p, rfl, hp⟩ := nat_u8 wa
  obtain ⟨q, rfl, hq⟩ := nat_u8 wb
  have HX := Lib.hid (sl_ivs hx)
  have HP := Lib.hid hp
  have HQ := Lib.hid hq
  clear hx wa wb hp hq hxc
  go_enter Try.func5, Try.ntmps5
  go_upto_region 3 with (first
    | (go_at_call 9; refine HA.mono ?_; rintro e w1 ⟨rfl, k1⟩; have K1 := Lib.hid k1; clear k1; have NR := Lib.hid (right_any _ x w1 (HX.out.nix K1.out)))
    | (go_at_call 10; refine NR.out.mono ?_; rintro e w2 ⟨rfl, n2, hw2⟩; have K2 := Lib.hid (show Kept Nix w w2 by rw [hw2]; exact K1.out.drewN n2); clear NR hw2))
  clear HA
  by_cases hlen : 40 < x.length
  · have hd : decide ((40 : Int) < (x.length : Int)) = true := decide_eq_true (by omega)
    clear hlen
    go_wp2
    go_ret
    exact ⟨rfl, K2.out⟩
  have hd : decide ((40 : Int) < (x.length : Int)) = false := decide_eq_false (by omega)
  cases hr : rtB x with
  | false =>
    clear hlen
    go_wp2
    go_ret
    exact ⟨rfl, K2.out⟩
  | true =>
    have HR := Lib.hid (rt_of hr)
    have HLX := Lib.hid (show x.length ≤ 40 by omega)
    clear hlen hr
    generalize hl : x.length = l at *
    have HL := Lib.hid hl
    clear hl
    go_upto_region 7 with fail
    obtain ⟨n, m, n1, n2, n3, n4, n5⟩ := ord_nums p q
    rw [n1, n2]
    clear n1 n2 HP HQ
    have P1 := Lib.hid (solve_any _ x (n : Int) w2 (HX.out.nix K2.out) HR.out (by rw [HL.out]; have := HLX.out; omega))
    have P2 := Lib.hid (fun w' (k : Kept Nix w2 w') => solve_any _ x (m : Int) w' (HX.out.nix (nix_trans K2.out k)) HR.out (by rw [HL.out]; have := HLX.out; omega))
    obtain ⟨f1, f2, f3, f4, f5⟩ := sol_first x n m n3 n4
    have HRW := Lib.hid (sol_rows x (m : Int))
    have HM40 := Lib.hid n5
    unfold SolPost at P1 P2
    generalize sol x (n : Int) = X at *
    generalize sol x (m : Int) = Y at *
    have F4 := Lib.hid f4
    have F5 := Lib.hid f5
    clear f4 f5
    generalize hlx : X.length = lx at *
    generalize hly : Y.length = ly at *
    have HLXX := Lib.hid hlx
    have HLYY := Lib.hid hly
    have F1 := Lib.hid f1
    have F2 := Lib.hid f2
    have F3 := Lib.hid f3
    clear hlx hly f1 f2 f3 n3 n4 n5 hd
    go_upto_region 9 with (first
      | (go_at_call 12; refine P1.out.mono ?_; rintro e w3 ⟨u3, us3, rfl, r3, k3⟩; have K3 := Lib.hid k3; have S3 := Lib.hid r3.chs; clear r3 k3 P1)
      | (go_at_call 12; refine (P2.out _ K3.out).mono ?_; rintro e w4 ⟨u4, us4, rfl, r4, k4⟩; have K4 := Lib.hid (nix_trans K3.out k4); have S4 := Lib.hid r4.chs; have S34 := Lib.hid (S3.out.nix k4); clear r4 k4 P2 S3))
    obtain ⟨ao3, ca3, rfl, -, -, -⟩ := S34.out.open
    obtain ⟨ao4, ca4, rfl, hc4, -, -⟩ := S4.out.open
    rw [HLXX.out, HLYY.out]
    rw [HLXX.out] at S34
    rw [HLYY.out] at S4 hc4
    have hf1 := fun w => run_upto_r w ao4 ly ca4 lx (by have := F2.out; omega)
    have hf2 := fun w => run_upto_r_at w ao4 ly ca4 lx (by have := F2.out; omega)
    have SM := Lib.hid (same_eq _ _ X w4 S34.out (by have h := chs_take S4.out lx F2.out; rwa [F4.out] at h))
    have d1 : decide ((n : Int) < (lx : Int)) = false := decide_eq_false (by have := F1.out; omega)
    have d1' : decide (n < lx) = false := decide_eq_false (by have := F1.out; omega)
    have d2 : decide ((ly : Int) < (lx : Int)) = false := decide_eq_false (by have := F2.out; omega)
    have d2' : decide (ly < lx) = false := decide_eq_false (by have := F2.out; omega)
    have d3 : decide (min (m : Int) 32 < (ly : Int)) = false := decide_eq_false (by have := F3.out; omega)
    clear hc4
    have HC : (decide ((lx : Int) < (n : Int)) = true ∧ decide (lx < n) = true ∧ ((ly : Int) != (lx : Int)) = false ∧ (ly != lx) = false) ∨ (decide ((lx : Int) < (n : Int)) = false ∧ decide (lx < n) = false ∧ ((lx : Int) != (lx : Int)) = false ∧ (lx != lx) = false) := by
      by_cases h : lx < n
      · have e := F5.out (by omega)
        exact .inl ⟨decide_eq_true (by omega), decide_eq_true h, by simp [e], by simp [e]⟩
      · exact .inr ⟨decide_eq_false (by omega), decide_eq_false h, by simp, by simp⟩
    rcases HC with ⟨d4, d4', d5, d5'⟩ | ⟨d4, d4', d5, d5'⟩
    all_goals
      go_upto_if 83 with (go_at_call 11; refine SM.out.mono ?_; rintro e w5 ⟨rfl, nn, hw5⟩; have K5 := Lib.hid (show Kept Nix w4 w5 by rw [hw5]; exact (Kept.refl _ w4).drewN nn); clear SM hw5)
      clear d1 d1' d2 d2' d3 d4 d4' d5 d5' hf1 hf2
      go_wp2
      have S5 := Lib.hid (S4.out.nix K5.out)
      refine wp_loop (OrdO (.slice ao4 ly ca4) ly w5) (fun a _ => ly - (intOf (a.tmps.getD 13 undef)).toNat) ?_ ?_
      · exact ⟨rfl, rfl, rfl, rfl, 0, Nat.zero_le _, rfl, rfl⟩
      · rintro ⟨tm, df⟩ w6 ⟨rfl, hs, e7, e12, i, hi, e13, rfl⟩
        simp only at hs e7 e12 e13
        obtain ⟨fr, hf, hg⟩ := fr_open hs
        have g7 := hg _ _ e7
        have g12 := hg _ _ e12
        have g13 := hg _ _ e13
        simp only [List.range, List.range.loop, List.map] at hf
        rw [g7, g12, g13] at hf
        clear g7 g12 g13 hg hs e7 e12 e13
        subst hf
        by_cases hlt : i < ly
        · have hd : decide (i < ly) = true := decide_eq_true hlt
          have i1 : (i : Int) < (ly : Int) := by omega
          obtain ⟨b1, o1, rfl, _, A, C, hh⟩ := S5.out.at (by rw [HLYY.out]; omega)
          obtain ⟨y1, s1⟩ := hh i (by rw [HLYY.out]; exact hlt)
          obtain ⟨r1, r2, r3, r4⟩ := HRW.out i hlt
          have hi40 : i < 40 := by have := F3.out; omega
          have HI40 := Lib.hid hi40
          have HI := Lib.hid hlt
          have S1 := Lib.hid (sl_ivs s1)
          have HW := Lib.hid r2
          clear hlt hi hh s1 r2
          generalize Y.getD i [] = row at *
          generalize A i = a1 at *
          generalize C i = c1 at *
          obtain ⟨b2, o2, rfl, hc2⟩ := cell_kept S1.out i (by rw [r1]; omega)
          have c2 := hc2 w6 (Kept.refl _ _)
          have HC2 := Lib.hid r1
          rw [r1] at y1
          generalize hi2 : i + 1 = i2 at *
          have hwi : wrap64 ((i : Int) + 1) = (i2 : Int) := by unfold wrap64; omega
          have HWI := Lib.hid hwi
          have HI2 := Lib.hid hi2
          have t1 : ((i2 : Int) != (i2 : Int)) = false := by simp
          have t2 : decide (1048576 ≤ row.getD i 0) = false := decide_eq_false (by omega)
          have t3 : decide (row.getD i 0 ≤ -1048576) = false := decide_eq_false (by omega)
          have j1 : (i : Int) < (i2 : Int) := by omega
          have j2 : i < i2 := by omega
          clear r1 r3 r4 hc2 hi40 hi2
          generalize row.getD i 0 = z at *
          go_wp2
          clear t1 t2 t3 c2 hwi j1 j2
          refine wp_loop (OrdI (.slice (some ⟨b1, o1, none⟩) ly ca4) i w6) (fun a _ => (i + 1) - (intOf (a.tmps.getD 14 undef)).toNat) ?_ ?_
          · exact ⟨rfl, rfl, rfl, rfl, rfl, 0, Nat.zero_le _, rfl, rfl⟩
          · rintro ⟨tm, df⟩ w7 ⟨rfl, hs, e7, e12, e13, j, hj, e14, rfl⟩
            simp only at hs e7 e12 e13 e14
            obtain ⟨fr2, hf, hg⟩ := fr_open hs
            have g7 := hg _ _ e7
            have g12 := hg _ _ e12
            have g13 := hg _ _ e13
            have g14 := hg _ _ e14
            simp only [List.range, List.range.loop, List.map] at hf
            rw [g7, g12, g13, g14] at hf
            clear g7 g12 g13 g14 hg hs e7 e12 e13 e14
            subst hf
            by_cases hlt : j ≤ i
            · have hd1 : decide ((j : Int) ≤ (i : Int)) = true := decide_eq_true (by omega)
              have hd2 : decide (j ≤ i) = true := decide_eq_true hlt
              have j1 : (j : Int) < (i2 : Int) := by have := HI2.out; omega
              have j2 : j < i2 := by have := HI2.out; omega
              obtain ⟨b3, o3, he, hc3⟩ := cell_kept S1.out j (by rw [HC2.out]; exact j2)
              simp only [Option.some.injEq, Addr.mk.injEq, and_true] at he
              obtain ⟨rfl, rfl⟩ := he
              have c3 := hc3 w7 (Kept.refl _ _)
              have hbb := (within_bd HW.out).any (by decide) j
              have hwj : wrap64 ((j : Int) + 1) = ((j + 1 : Nat) : Int) := by have := HI40.out; unfold wrap64; omega
              have HWJ := Lib.hid hwj
              have HJ := Lib.hid hlt
              clear hlt hj hc3 hwj
              generalize row.getD j 0 = zj at *
              have t1 : decide (67108864 < zj) = false := decide_eq_false (by omega)
              have t2 : decide (zj < -67108864) = false := decide_eq_false (by omega)
              clear hbb
              go_wp2
              rw [HWJ.out]
              exact ⟨⟨rfl, rfl, rfl, rfl, rfl, j + 1, Nat.succ_le_succ HJ.out, rfl, rfl⟩, nearer (Nat.lt_succ_of_le HJ.out) rfl⟩
            · have hd1 : decide ((j : Int) ≤ (i : Int)) = false := decide_eq_false (by omega)
              have hd2 : decide (j ≤ i) = false := decide_eq_false hlt
              clear hlt hj
              go_wp2
              rw [HWI.out]
              exact ⟨⟨rfl, rfl, rfl, rfl, i2, by rw [← HI2.out]; exact HI.out, rfl, rfl⟩, nearer HI.out HI2.out⟩
        · have hd : decide (i < ly) = false := decide_eq_false hlt
          clear hlt hi
          go_wp2
          go_ret
          exact ⟨rfl, nix_trans K2.out (nix_trans K4.out K5.out)⟩

end Go.Proofs.Ytdifaaimjiflgaa
