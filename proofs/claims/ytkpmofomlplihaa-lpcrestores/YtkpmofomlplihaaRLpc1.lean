/- The reference of layer 12: Check, Told. -/
import Derived.Test.YtkpmofomlplihaaLpcLeaf
import Derived.Test.YtkpmofomlplihaaFill
import Derived.Test.YtkpmofomlplihaaDownBy
namespace Go.Proofs.Ytkpmofomlplihaa
open Go.RowKit Bx

def RChkInv (g : Nat) (p : Int) (F : List Int) (w : World) (a : Act) (w' : World) : Prop :=
  a.defers = [] ∧ a.tmps.size = 52 ∧ a.tmps[1]? = some (.pointer (some ⟨g, 0, none⟩)) ∧ ∃ i : Nat, i ≤ F.length ∧ a.tmps[3]? = some (.int .i64 (i : Int)) ∧ (F.take i).any (fun f => !inD f p) = false ∧ ∃ k, w' = w.drewN k

set_option maxRecDepth 10000 in
set_option maxHeartbeats 4000000 in
theorem rcheck_any (s p : Int) (u : Value) (F : List Int) (w : World) (hu : Sl w u (ivs F)) :
    Calls Try.prog 15 #[.agg #[.int .i64 s, .int .i64 p, u]] w fun e w' => e = .returned (.int .i64 (lpcE s p F)) ∧ Kept Nix w w' := by
  obtain ⟨ao, ca, rfl, h1, h2, -⟩ := hu.ints
  have k1 : Kept Nix w (w.alloc (.cells #[.int .i64 s, .int .i64 p, .slice ao F.length ca] 24)) := (Kept.refl _ w).alloc _
  have CC := Lib.hid (fun w' k => lpc_cells w s p (.slice ao F.length ca) 24 w' k)
  have HU := Lib.hid (hu.nix k1)
  have K1 := Lib.hid k1
  have hl : F.length ≤ 9223372036854775807 := by simp only [maxLen] at h2; omega
  have HL := Lib.hid hl
  clear hu k1 h1 h2 hl
  by_cases hb : F.length < 1 ∨ 32 < F.length ∨ p < 1 ∨ 15 < p ∨ s < 0 ∨ 15 < s
  · have hcases : (decide ((F.length : Int) < 1) = true) ∨ (decide ((F.length : Int) < 1) = false ∧ decide (32 < (F.length : Int)) = true) ∨ (decide ((F.length : Int) < 1) = false ∧ decide (32 < (F.length : Int)) = false ∧ decide (p < 1) = true) ∨ (decide ((F.length : Int) < 1) = false ∧ decide (32 < (F.length : Int)) = false ∧ decide (p < 1) = false ∧ decide (15 < p) = true) ∨ (decide ((F.length : Int) < 1) = false ∧ decide (32 < (F.length : Int)) = false ∧ decide (p < 1) = false ∧ decide (15 < p) = false ∧ decide (s < 0) = true) ∨ (decide ((F.length : Int) < 1) = false ∧ decide (32 < (F.length : Int)) = false ∧ decide (p < 1) = false ∧ decide (15 < p) = false ∧ decide (s < 0) = false ∧ decide (15 < s) = true) := by
      simp only [decide_eq_true_eq, decide_eq_false_iff_not]
      omega
    have he : lpcE s p F = 1 := by unfold lpcE; rw [if_pos (lpc_head hb)]
    rw [he]
    clear hb he
    obtain ⟨y0, y1, y2⟩ := CC.out _ (Kept.refl _ _)
    generalize F.length = n at *
    go_enter Try.func15, Try.ntmps15
    go_upto_region 1 with fail
    generalize w.alloc (.cells #[.int .i64 s, .int .i64 p, .slice ao n ca] 24) = w1 at *
    generalize w.heap.size = g at *
    rcases hcases with a1 | ⟨a1, a2⟩ | ⟨a1, a2, a3⟩ | ⟨a1, a2, a3, a4⟩ | ⟨a1, a2, a3, a4, a5⟩ | ⟨a1, a2, a3, a4, a5, a6⟩
    all_goals go_wp2
    all_goals go_ret
    all_goals exact ⟨rfl, K1.out⟩
  · have a1 : decide ((F.length : Int) < 1) = false := decide_eq_false (by omega)
    have a2 : decide (32 < (F.length : Int)) = false := decide_eq_false (by omega)
    have a3 : decide (p < 1) = false := decide_eq_false (by omega)
    have a4 : decide (15 < p) = false := decide_eq_false (by omega)
    have a5 : decide (s < 0) = false := decide_eq_false (by omega)
    have a6 : decide (15 < s) = false := decide_eq_false (by omega)
    have HE := Lib.hid (show lpcE s p F = if F.any (fun f => !inD f p) = true then 1 else 0 by unfold lpcE; rw [lpc_tail hb])
    clear hb
    rw [HE.out]
    obtain ⟨y0, y1, y2⟩ := CC.out _ (Kept.refl _ _)
    go_enter Try.func15, Try.ntmps15
    go_upto_region 1 with fail
    generalize w.alloc (.cells #[.int .i64 s, .int .i64 p, .slice ao F.length ca] 24) = w1 at *
    generalize w.heap.size = g at *
    go_wp2
    clear a1 a2 a3 a4 a5 a6 y0 y1 y2
    refine wp_loop (RChkInv g p F w1) (fun a _ => F.length - (intOf (a.tmps.getD 3 undef)).toNat) ?_ ?_
    · exact ⟨rfl, rfl, rfl, 0, Nat.zero_le _, rfl, rfl, 0, rfl⟩
    · rintro ⟨tm, df⟩ w2 ⟨rfl, hs, e1, i, hi, e3, hany, k, hw2⟩
      simp only at hs e1 e3
      obtain ⟨f, hf, hg⟩ := fr_open hs
      have g1 := hg _ _ e1
      have g3 := hg _ _ e3
      simp only [List.range, List.range.loop, List.map] at hf
      rw [g1, g3] at hf
      clear g1 g3 hg hs e1 e3
      subst hf
      have K2 := Lib.hid (show Kept Nix w1 w2 by rw [hw2]; exact (Kept.refl _ w1).drewN k)
      have HW2 := Lib.hid hw2
      have HANY := Lib.hid hany
      obtain ⟨-, y1, y2⟩ := CC.out _ K2.out
      clear hany hw2
      by_cases hlt : i < F.length
      · obtain ⟨b1, o1, rfl, hc1⟩ := cell_kept HU.out i hlt
        have x1 := hc1 _ K2.out
        have hi1 : (i : Int) < (F.length : Int) := by omega
        have hdd : decide (i < F.length) = true := decide_eq_true hlt
        have hw1 : wrap64 ((i : Int) + 1) = ((i + 1 : Nat) : Int) := by have := HL.out; unfold wrap64; omega
        have HW1 := Lib.hid hw1
        have HI := Lib.hid hlt
        clear hc1 hlt hi hw1
        cases hin : inD (F.getD i 0) p with
        | true =>
          have HN := Lib.hid (any_next HANY.out HI.out hin)
          have IN := Lib.hid (fun w => rin_any (F.getD i 0) p w)
          rw [hin] at IN
          clear hin
          generalize F.getD i 0 = x at *
          go_upto_region 6 with fail
          go_quiet ((go_at_call 24; exact Calls.quiet_of_same (IN.out _)))
          have HW3 := Lib.hid (show w2.drewN nq = w1.drewN (k + nq) by rw [HW2.out, World.drewN_drewN])
          clear x1 y1 y2 hi1
          go_wp2
          rw [HW1.out]
          exact ⟨⟨rfl, rfl, rfl, i + 1, HI.out, rfl, HN.out, _, HW3.out⟩, nearer HI.out rfl⟩
        | false =>
          have HN := Lib.hid (any_here HI.out hin)
          have IN := Lib.hid (fun w => rin_any (F.getD i 0) p w)
          rw [hin] at IN
          clear hin
          generalize F.getD i 0 = x at *
          go_upto_region 6 with fail
          go_quiet ((go_at_call 24; exact Calls.quiet_of_same (IN.out _)))
          have KW := Lib.hid (nix_trans K1.out (K2.out.drewN nq))
          clear x1 y1 y2 hi1
          go_wp2
          go_ret
          exact ⟨rfl, KW.out⟩
      · have hie : i = F.length := by omega
        subst hie
        have hdd : decide (F.length < F.length) = false := decide_eq_false hlt
        have HN := HANY.out
        rw [List.take_length] at HN
        clear hi hlt
        go_wp2
        all_goals go_ret
        all_goals exact ⟨by first | rfl | (rw [HN]; rfl), nix_trans K1.out K2.out⟩

def RTInv (g n i : Nat) (va : Value) (F x : List Int) (w : World) (a : Act) (w' : World) : Prop :=
  a.defers = [] ∧ a.tmps.size = 36 ∧ a.tmps[0]? = some va ∧ a.tmps[1]? = some (.int .i64 (i : Int)) ∧ a.tmps[5]? = some (.pointer (some ⟨g, 0, none⟩)) ∧ ∃ j : Nat, j ≤ n ∧ a.tmps[8]? = some (.int .i64 (j : Int)) ∧ a.tmps[7]? = some (.int .i64 (ts F x i j)) ∧ ∃ k, w' = w.drewN k

theorem rtold_nums {F x : List Int} {n i j l : Nat} (hF : Bd 16384 F) (hX : Bd 1099511627776 x) (hn : n ≤ 32) (hni : n ≤ i) (hil : i ≤ l) (hl : l < 1000000) (hj : j < n) :
    IntKind.i64.wrap ((i : Int) - 1) = (i : Int) - 1 ∧ IntKind.i64.wrap ((i : Int) - 1 - (j : Int)) = ((i - 1 - j : Nat) : Int) ∧ IntKind.i64.wrap (F.getD j 0 * x.getD (i - 1 - j) 0) = F.getD j 0 * x.getD (i - 1 - j) 0 ∧ IntKind.i64.wrap (ts F x i j + F.getD j 0 * x.getD (i - 1 - j) 0) = ts F x i (j + 1) ∧ wrap64 ((j : Int) + 1) = ((j + 1 : Nat) : Int) ∧ ((i - 1 - j : Nat) : Int) < (l : Int) ∧ (j : Int) < (n : Int) ∧ i - 1 - j < l := by
  have h1 := ts_big hF hX i j (by omega)
  have h2 := ts_big hF hX i (j + 1) (by omega)
  rw [ts] at h2
  refine ⟨?_, ?_, ?_, ?_, ?_, by omega, by omega, by omega⟩
  · rw [IntWalk.i64_in _ (by omega)]
  · rw [IntWalk.i64_in _ (by omega)]; omega
  · exact IntWalk.i64_in _ (by omega)
  · rw [ts, IntWalk.i64_in _ (by omega)]
  · rw [w64_in _ (by omega)]; omega

set_option maxRecDepth 10000 in
set_option maxHeartbeats 4000000 in
theorem rtold_any (S : Nat) (p : Int) (u v : Value) (F x : List Int) (i : Nat) (w : World) (hu : Sl w u (ivs F)) (hv : Sl w v (ivs x)) (hF : Bd 16384 F) (hX : Bd 1099511627776 x) (hn : F.length ≤ 32) (hS : S ≤ 15) (hni : F.length ≤ i) (hil : i ≤ x.length) (hl : x.length < 1000000) :
    Calls Try.prog 22 #[v, .int .i64 (i : Int), .agg #[.int .i64 (S : Int), .int .i64 p, u]] w fun e w' => e = .returned (.int .i64 (td F S x i)) ∧ Kept Nix w w' := by
  obtain ⟨ao, ca, rfl, -⟩ := hu.ints
  obtain ⟨bo, cb, rfl, -⟩ := hv.ints
  have k1 : Kept Nix w (w.alloc (.cells #[.int .i64 (S : Int), .int .i64 p, .slice ao F.length ca] 24)) := (Kept.refl _ w).alloc _
  have CC := Lib.hid (fun w' k => lpc_cells w S p (.slice ao F.length ca) 24 w' k)
  have HU := Lib.hid (hu.nix k1)
  have HV := Lib.hid (hv.nix k1)
  have K1 := Lib.hid k1
  have NU := Lib.hid (fun j (hj : j < F.length) => rtold_nums hF hX hn hni hil hl hj)
  have PW := Lib.hid (fun w => rpower_any S (by omega) w)
  have h2s : (0 : Int) < 2 ^ S := Int.pow_pos (by decide)
  have DN := Lib.hid (fun w => down_by (ts F x i F.length) (2 ^ S) h2s (by have := ts_big hF hX i F.length hn; omega) w)
  have HTD := Lib.hid (show td F S x i = ts F x i F.length / 2 ^ S from rfl)
  clear hu hv k1 hF hX hn hni hil hl hS h2s
  generalize td F S x i = q at *
  generalize (2 : Int) ^ S = P at *
  generalize hn' : F.length = n at *
  generalize hl' : x.length = l at *
  have HN := Lib.hid hn'
  have HLX := Lib.hid hl'
  clear hn' hl'
  go_enter Try.func22, Try.ntmps22
  go_upto_region 1 with fail
  generalize w.alloc (.cells #[.int .i64 (S : Int), .int .i64 p, .slice ao n ca] 24) = w1 at *
  generalize w.heap.size = g at *
  go_wp2
  refine wp_loop (RTInv g n i (.slice bo l cb) F x w1) (fun a _ => n - (intOf (a.tmps.getD 8 undef)).toNat) ?_ ?_
  · exact ⟨rfl, rfl, rfl, rfl, rfl, 0, Nat.zero_le _, rfl, rfl, 0, rfl⟩
  · rintro ⟨tm, df⟩ w2 ⟨rfl, hs, e0, e1, e5, j, hj, e8, e7, k, hw2⟩
    simp only at hs e0 e1 e5 e8 e7
    obtain ⟨f, hf, hg⟩ := fr_open hs
    have g0 := hg _ _ e0
    have g1 := hg _ _ e1
    have g5 := hg _ _ e5
    have g8 := hg _ _ e8
    have g7 := hg _ _ e7
    simp only [List.range, List.range.loop, List.map] at hf
    rw [g0, g1, g5, g8, g7] at hf
    clear g0 g1 g5 g8 g7 hg hs e0 e1 e5 e8 e7
    subst hf
    have K2 := Lib.hid (show Kept Nix w1 w2 by rw [hw2]; exact (Kept.refl _ w1).drewN k)
    have HW2 := Lib.hid hw2
    obtain ⟨y0, y1, y2⟩ := CC.out _ K2.out
    clear hw2 y1
    by_cases hlt : j < n
    · obtain ⟨m1, m2, m3, m4, m5, m6, m7, m8⟩ := NU.out j hlt
      obtain ⟨b1, o1, rfl, hc1⟩ := cell_kept HU.out j (by rw [HN.out]; exact hlt)
      obtain ⟨b2, o2, rfl, hc2⟩ := cell_kept HV.out (i - 1 - j) (by rw [HLX.out]; exact m8)
      have x1 := hc1 _ K2.out
      have x2 := hc2 _ K2.out
      have hdd : decide (j < n) = true := decide_eq_true hlt
      have HI := Lib.hid hlt
      have M5 := Lib.hid m5
      clear hc1 hc2 hlt hj m5 m8
      generalize i - 1 - j = ij at *
      generalize F.getD j 0 = fj at *
      generalize x.getD ij 0 = xj at *
      generalize ht1 : ts F x i (j + 1) = t1 at *
      have HT1 := Lib.hid ht1
      clear ht1
      generalize ts F x i j = t0 at *
      go_wp2_with fail
      go_quiet (fail)
      have HW3 := Lib.hid (show w2.drewN nq = w1.drewN (k + nq) by rw [HW2.out, World.drewN_drewN])
      clear x1 x2 y0 y2 m1 m2 m3 m4 m6 m7
      go_wp2
      rw [M5.out]
      exact ⟨⟨rfl, rfl, rfl, rfl, rfl, j + 1, HI.out, rfl, by rw [HT1.out]; rfl, _, HW3.out⟩, nearer HI.out rfl⟩
    · have hie : j = n := by omega
      subst hie
      have hdd : decide (j < j) = false := decide_eq_false hlt
      clear hj hlt
      generalize ts F x i j = t0 at *
      go_wp2_with (first
        | (go_at_call 29; refine (PW.out _).mono ?_; rintro e w3 ⟨rfl, rfl⟩)
        | (go_at_call 28; refine (DN.out _).mono ?_; rintro e w4 ⟨rfl, rfl⟩))
      go_ret
      exact ⟨by rw [HTD.out]; rfl, nix_trans K1.out K2.out⟩

end Go.Proofs.Ytkpmofomlplihaa
