/- Package lpc: Check, foretell. -/
import Derived.Test.YtkpmofomlplihaaInDepth
import Derived.Test.YtkpmofomlplihaaLpcMath
import Derived.Test.YtkpmofomlplihaaLpcVal
namespace Go.Proofs.Ytkpmofomlplihaa
open Go.RowKit Bx

theorem lpc_cells (w : World) (s p : Int) (u : Value) (t : TypeId) : ∀ w', Kept Nix (w.alloc (.cells #[.int .i64 s, .int .i64 p, u] t)) w' → w'.cell? ⟨w.heap.size, 0, none⟩ = some (.int .i64 s) ∧ w'.cell? ⟨w.heap.size, 1, none⟩ = some (.int .i64 p) ∧ w'.cell? ⟨w.heap.size, 2, none⟩ = some u := by
  intro w' hk
  have hb := hk.heap (heap_alloc_new w (.cells #[.int .i64 s, .int .i64 p, u] t)) id
  exact ⟨by rw [cell_of hb]; rfl, by rw [cell_of hb]; rfl, by rw [cell_of hb]; rfl⟩

def ChkInv (g : Nat) (p : Int) (ao : Option Addr) (ca : Nat) (F : List Int) (w : World) (a : Act) (w' : World) : Prop :=
  a.defers = [] ∧ a.tmps.size = 47 ∧ a.tmps[1]? = some (.pointer (some ⟨g, 0, none⟩)) ∧ a.tmps[35]? = some (.slice ao F.length ca) ∧ a.tmps[36]? = some (.int .i64 (F.length : Int)) ∧ ∃ i : Nat, i ≤ F.length ∧ a.tmps[37]? = some (.int .i64 (i : Int)) ∧ (F.take i).any (fun f => !inD f p) = false ∧ w' = w

theorem any_next {F : List Int} {p : Int} {i : Nat} (h : (F.take i).any (fun f => !inD f p) = false) (hi : i < F.length) (h2 : inD (F.getD i 0) p = true) : (F.take (i + 1)).any (fun f => !inD f p) = false := by
  have e : F.getD i 0 = F[i] := by simp [List.getD, hi]
  rw [e] at h2
  rw [List.take_succ_eq_append_getElem hi, List.any_append, h]
  simp [h2]

theorem any_here {F : List Int} {p : Int} {i : Nat} (hi : i < F.length) (h2 : inD (F.getD i 0) p = false) : F.any (fun f => !inD f p) = true := by
  have e : F.getD i 0 = F[i] := by simp [List.getD, hi]
  rw [e] at h2
  exact List.any_eq_true.2 ⟨_, List.getElem_mem hi, by simp [h2]⟩

set_option maxRecDepth 10000 in
set_option maxHeartbeats 2000000 in
theorem check_any (s p : Int) (u : Value) (F : List Int) (w : World) (hu : Sl w u (ivs F)) :
    Calls Try.prog 14 #[.agg #[.int .i64 s, .int .i64 p, u]] w fun e w' => e = .returned (.int .i64 (lpcE s p F)) ∧ Kept Nix w w' := by
  obtain ⟨ao, ca, rfl, h1, h2, -⟩ := hu.ints
  have k1 : Kept Nix w (w.alloc (.cells #[.int .i64 s, .int .i64 p, .slice ao F.length ca] 24)) := (Kept.refl _ w).alloc _
  obtain ⟨y0, y1, y2⟩ := lpc_cells w s p (.slice ao F.length ca) 24 _ (Kept.refl _ _)
  have HU := Lib.hid (hu.nix k1)
  have K1 := Lib.hid k1
  have hl : F.length ≤ 9223372036854775807 := by simp only [maxLen] at h2; omega
  have HL := Lib.hid hl
  clear hu k1 h1 h2 hl
  by_cases hb : F.length < 1 ∨ 32 < F.length ∨ p < 1 ∨ 15 < p ∨ s < 0 ∨ 15 < s
  · have hcases : (decide ((F.length : Int) < 1) = true) ∨ (decide ((F.length : Int) < 1) = false ∧ decide (32 < (F.length : Int)) = true) ∨ (decide ((F.length : Int) < 1) = false ∧ decide (32 < (F.length : Int)) = false ∧ decide (p < 1) = true) ∨ (decide ((F.length : Int) < 1) = false ∧ decide (32 < (F.length : Int)) = false ∧ decide (p < 1) = false ∧ decide (15 < p) = true) ∨ (decide ((F.length : Int) < 1) = false ∧ decide (32 < (F.length : Int)) = false ∧ decide (p < 1) = false ∧ decide (15 < p) = false ∧ decide (s < 0) = true) ∨ (decide ((F.length : Int) < 1) = false ∧ decide (32 < (F.length : Int)) = false ∧ decide (p < 1) = false ∧ decide (15 < p) = false ∧ decide (s < 0) = false ∧ decide (15 < s) = true) := by
      simp only [decide_eq_true_eq, decide_eq_false_iff_not]
      omega
    have he : lpcE s p F = 1 := by unfold lpcE; rw [if_pos (lpc_head hb)]
    rw [he]
    clear hb he
    generalize F.length = n at *
    go_enter Try.func14, Try.ntmps14
    go_upto_region 1 with fail
    generalize w.alloc (.cells #[.int .i64 s, .int .i64 p, .slice ao n ca] 24) = w1 at *
    generalize w.heap.size = g at *
    rcases hcases with a1 | ⟨a1, a2⟩ | ⟨a1, a2, a3⟩ | ⟨a1, a2, a3, a4⟩ | ⟨a1, a2, a3, a4, a5⟩ | ⟨a1, a2, a3, a4, a5, a6⟩
    all_goals go_wp2
    all_goals go_ret
    all_goals exact ⟨rfl, K1.out⟩
  · have a1 : decide ((F.length : Int) < 1) = false := decide_eq_false (by omega)
    have a2 : decide (32 < (F.length : Int)) = false := decide_eq_false (by omega)
    have a3 : decide (p < 1) = false := decide_eq_false (by omega)
    have a4 : decide (15 < p) = false := decide_eq_false (by omega)
    have a5 : decide (s < 0) = false := decide_eq_false (by omega)
    have a6 : decide (15 < s) = false := decide_eq_false (by omega)
    have HE := Lib.hid (show lpcE s p F = if F.any (fun f => !inD f p) = true then 1 else 0 by unfold lpcE; rw [lpc_tail hb])
    clear hb
    rw [HE.out]
    go_enter Try.func14, Try.ntmps14
    go_upto_region 1 with fail
    generalize w.alloc (.cells #[.int .i64 s, .int .i64 p, .slice ao F.length ca] 24) = w1 at *
    generalize w.heap.size = g at *
    go_wp2
    clear a1 a2 a3 a4 a5 a6
    have Y1 := Lib.hid y1
    clear y0 y1 y2
    refine wp_loop (ChkInv g p ao ca F w1) (fun a _ => F.length - (intOf (a.tmps.getD 37 undef)).toNat) ?_ ?_
    · exact ⟨rfl, rfl, rfl, rfl, rfl, 0, Nat.zero_le _, rfl, rfl, rfl⟩
    · rintro ⟨tm, df⟩ w2 ⟨rfl, hs, e1, e35, e36, i, hi, e37, hany, rfl⟩
      simp only at hs e1 e35 e36 e37
      obtain ⟨f, hf, hg⟩ := fr_open hs
      have g1 := hg _ _ e1
      have g35 := hg _ _ e35
      have g36 := hg _ _ e36
      have g37 := hg _ _ e37
      simp only [List.range, List.range.loop, List.map] at hf
      rw [g1, g35, g36, g37] at hf
      clear g1 g35 g36 g37 hg hs e1 e35 e36 e37
      subst hf
      have HANY := Lib.hid hany
      have y1 := Y1.out
      clear hany
      by_cases hlt : i < F.length
      · obtain ⟨b1, o1, rfl, hc1⟩ := cell_kept HU.out i hlt
        have x1 := hc1 _ (Kept.refl _ _)
        have hi1 : (i : Int) < (F.length : Int) := by omega
        have hdd : decide (i < F.length) = true := decide_eq_true hlt
        have hw1 : wrap64 ((i : Int) + 1) = ((i + 1 : Nat) : Int) := by have := HL.out; unfold wrap64; omega
        have HW1 := Lib.hid hw1
        have HI := Lib.hid hlt
        clear hc1 hlt hi hw1
        cases hin : inD (F.getD i 0) p with
        | true =>
          have HN := Lib.hid (any_next HANY.out HI.out hin)
          have IN := in_any (F.getD i 0) p w2
          rw [hin] at IN
          clear hin
          generalize F.getD i 0 = x at *
          go_wp2_with (go_at_call 23; refine IN.mono ?_; rintro e w3 ⟨rfl, rfl⟩; clear IN)
          rw [HW1.out]
          exact ⟨⟨rfl, rfl, rfl, rfl, rfl, i + 1, HI.out, rfl, HN.out, rfl⟩, nearer HI.out rfl⟩
        | false =>
          have HN := Lib.hid (any_here HI.out hin)
          have IN := in_any (F.getD i 0) p w2
          rw [hin] at IN
          clear hin
          generalize F.getD i 0 = x at *
          go_wp2_with (go_at_call 23; refine IN.mono ?_; rintro e w3 ⟨rfl, rfl⟩; clear IN)
          go_ret
          exact ⟨rfl, K1.out⟩
      · have hie : i = F.length := by omega
        subst hie
        have hdd : decide (F.length < F.length) = false := decide_eq_false hlt
        have HN := HANY.out
        rw [List.take_length] at HN
        clear hi hlt
        go_wp2
        all_goals go_ret
        all_goals exact ⟨rfl, K1.out⟩


def ForeInv (g n : Nat) (va vf : Value) (F X : List Int) (w : World) (a : Act) (w' : World) : Prop :=
  a.defers = [] ∧ a.tmps.size = 35 ∧ a.tmps[1]? = some va ∧ a.tmps[2]? = some (.pointer (some ⟨g, 0, none⟩)) ∧ a.tmps[6]? = some (.int .i64 ((n : Int) - 1)) ∧ a.tmps[13]? = some vf ∧ a.tmps[14]? = some (.int .i64 (n : Int)) ∧ ∃ i : Nat, i ≤ n ∧ a.tmps[15]? = some (.int .i64 (i : Int)) ∧ a.tmps[5]? = some (.int .i64 (ts F X n i)) ∧ w' = w

theorem fore_nums {F X : List Int} {n i : Nat} (hF : Bd 16384 F) (hX : Bd 1099511627776 X) (hn : n ≤ 32) (hi : i < n) :
    wrap64 ((n : Int) - 1 - (i : Int)) = ((n - 1 - i : Nat) : Int) ∧ wrap64 (X.getD (n - 1 - i) 0 * F.getD i 0) = X.getD (n - 1 - i) 0 * F.getD i 0 ∧ wrap64 (ts F X n i + X.getD (n - 1 - i) 0 * F.getD i 0) = ts F X n (i + 1) ∧ wrap64 ((i : Int) + 1) = ((i + 1 : Nat) : Int) := by
  have h1 := ts_big hF hX n i (by omega)
  have h2 := ts_big hF hX n (i + 1) (by omega)
  rw [ts, Int.mul_comm] at h2
  refine ⟨?_, w64_in _ (by omega), ?_, ?_⟩
  · rw [w64_in _ (by omega)]; omega
  · rw [ts, Int.mul_comm (F.getD i 0), w64_in _ (by omega)]
  · rw [w64_in _ (by omega)]; omega

set_option maxRecDepth 10000 in
set_option maxHeartbeats 2000000 in
theorem fore_any (S : Nat) (p : Int) (u v : Value) (F X : List Int) (w : World) (hu : Sl w u (ivs F)) (hv : Sl w v (ivs X)) (hF : Bd 16384 F) (hX : Bd 1099511627776 X) (hl : X.length = F.length) (hn : F.length ≤ 32) (hS : S ≤ 15) :
    Calls Try.prog 21 #[.agg #[.int .i64 (S : Int), .int .i64 p, u], v] w fun e w' => e = .returned (.int .i64 (td F S X F.length)) ∧ w' = w.alloc (.cells #[.int .i64 (S : Int), .int .i64 p, u] 42) := by
  obtain ⟨ao, ca, rfl, -⟩ := hu.ints
  obtain ⟨bo, cb, rfl, -⟩ := hv.ints
  have k1 : Kept Nix w (w.alloc (.cells #[.int .i64 (S : Int), .int .i64 p, .slice ao F.length ca] 42)) := (Kept.refl _ w).alloc _
  obtain ⟨y0, y1, y2⟩ := lpc_cells w S p (.slice ao F.length ca) 42 _ (Kept.refl _ _)
  have HU := Lib.hid (hu.nix k1)
  have HV := Lib.hid (hv.nix k1)
  have HFB := Lib.hid hF
  have HX := Lib.hid hX
  have HN := Lib.hid hn
  have HLX := Lib.hid hl
  have e1 : wrap64 ((F.length : Int) - 1) = (F.length : Int) - 1 := w64_in _ (by omega)
  have hsh : (2 : Int) ^ min S 64 = 2 ^ S := by rw [Nat.min_eq_left (by omega)]
  have HSH := Lib.hid hsh
  rw [hl] at HV ⊢
  have HFL := Lib.hid (show F.length = F.length from rfl)
  clear hu hv k1 hF hX hn hl hsh hS
  have HTD := Lib.hid (show td F S X F.length = ts F X F.length F.length / 2 ^ S from rfl)
  generalize td F S X F.length = q at *
  revert HTD HFL
  generalize hn' : F.length = n at *
  intro HFL HTD
  have HNF := Lib.hid hn'
  clear hn' HFL
  go_enter Try.func21, Try.ntmps21
  go_upto_region 1 with fail
  generalize hw1 : w.alloc (.cells #[.int .i64 (S : Int), .int .i64 p, .slice ao n ca] 42) = w1 at *
  have HW1 := Lib.hid hw1
  clear hw1
  generalize w.heap.size = g at *
  go_wp2
  rw [e1]
  clear e1
  refine wp_loop (ForeInv g n (.slice bo n cb) (.slice ao n ca) F X w1) (fun a _ => n - (intOf (a.tmps.getD 15 undef)).toNat) ?_ ?_
  · exact ⟨rfl, rfl, rfl, rfl, rfl, rfl, rfl, 0, Nat.zero_le _, rfl, rfl, rfl⟩
  · rintro ⟨tm, df⟩ w2 ⟨rfl, hs, e1, e2, e6, e13, e14, i, hi, e15, e5, rfl⟩
    simp only at hs e1 e2 e6 e13 e14 e15 e5
    obtain ⟨f, hf, hg⟩ := fr_open hs
    have g1 := hg _ _ e1
    have g2 := hg _ _ e2
    have g6 := hg _ _ e6
    have g13 := hg _ _ e13
    have g14 := hg _ _ e14
    have g15 := hg _ _ e15
    have g5 := hg _ _ e5
    simp only [List.range, List.range.loop, List.map] at hf
    rw [g1, g2, g6, g13, g14, g15, g5] at hf
    clear g1 g2 g6 g13 g14 g15 g5 hg hs e1 e2 e6 e13 e14 e15 e5
    subst hf
    by_cases hlt : i < n
    · obtain ⟨b1, o1, rfl, hc1⟩ := cell_kept HU.out i (by rw [HNF.out]; exact hlt)
      obtain ⟨b2, o2, rfl, hc2⟩ := cell_kept HV.out (n - 1 - i) (by rw [HLX.out]; omega)
      have x1 := hc1 _ (Kept.refl _ _)
      have x2 := hc2 _ (Kept.refl _ _)
      obtain ⟨m1, m2, m3, m4⟩ := fore_nums HFB.out HX.out HN.out hlt
      have hi1 : (i : Int) < (n : Int) := by omega
      have hdd : decide (i < n) = true := decide_eq_true hlt
      have hj : ((n - 1 - i : Nat) : Int) < (n : Int) := by omega
      have HI := Lib.hid hlt
      have M := Lib.hid (And.intro m3 m4)
      clear hc1 hc2 hlt hi m3 m4 y0 y1 y2
      generalize n - 1 - i = j at *
      generalize F.getD i 0 = fi at *
      generalize X.getD j 0 = xj at *
      generalize ht1 : ts F X n (i + 1) = t1 at *
      have HT1 := Lib.hid ht1
      clear ht1
      generalize ts F X n i = t0 at *
      go_wp2
      rw [M.out.1, M.out.2]
      exact ⟨⟨rfl, rfl, rfl, rfl, rfl, rfl, rfl, i + 1, HI.out, rfl, by rw [HT1.out]; rfl, rfl⟩, nearer HI.out rfl⟩
    · have hie : i = n := by omega
      subst hie
      have hdd : decide (i < i) = false := decide_eq_false hlt
      clear hi hlt
      generalize ts F X i i = t0 at *
      go_wp2
      go_ret
      exact ⟨by rw [HTD.out, ← HSH.out]; rfl, HW1.out.symm⟩

end Go.Proofs.Ytkpmofomlplihaa
