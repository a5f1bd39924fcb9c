/- Package quant: Quantise. -/
import Derived.Test.YtgcokligilfkgaaQuCoarse
import Derived.Test.YtgcokligilfkgaaLpcVal
namespace Go.Proofs.Ytgcokligilfkgaa
open Go.RowKit Bx

def QPostR (R : Int × Int × List Int × Int) (w : World) (e : Ending) (w' : World) : Prop :=
  ∃ u, e = .returned (.tuple #[.agg #[.int .i64 R.1, .int .i64 R.2.1, u], .int .i64 R.2.2.2]) ∧ w'.ownsRow w.heap.size 3 1 u R.2.2.1.length (ivs R.2.2.1) ∧ Kept Nix w w'

theorem q_start (w : World) : ∀ w', w' = w.alloc (.cells #[.int .i64 0, .int .i64 0, .slice none 0 0] 26) → w'.heap[w.heap.size]? = some (.cells #[.int .i64 0, .int .i64 0, .slice none 0 0] 26 (0, 0)) ∧ Kept Nix w w' ∧ w.heap.size < w'.heap.size := by
  rintro w' rfl
  exact ⟨heap_alloc_new _ _, (Kept.refl _ w).alloc _, by simp⟩

set_option maxRecDepth 10000 in
set_option maxHeartbeats 2000000 in
theorem quant_bad (v : Value) (zs : List Int) (p : Int) (w : World) (hz : Sl w v (ivs zs)) (hb : zs.length < 1 ∨ 32 < zs.length ∨ p < 2 ∨ 15 < p) :
    Calls Try.prog 10 #[v, .int .i64 p] w (QPostR (0, 0, [], 1) w) := by
  obtain ⟨ao, ca, rfl, -⟩ := hz.ints
  obtain ⟨h8, k0, hsz⟩ := q_start w _ rfl
  have H8 := Lib.hid h8
  have K0 := Lib.hid k0
  clear hz h8 k0 hsz
  generalize zs.length = n at *
  have hcases : (decide ((n : Int) < 1) = true) ∨ (decide ((n : Int) < 1) = false ∧ decide (32 < (n : Int)) = true) ∨ (decide ((n : Int) < 1) = false ∧ decide (32 < (n : Int)) = false ∧ decide (p < 2) = true) ∨ (decide ((n : Int) < 1) = false ∧ decide (32 < (n : Int)) = false ∧ decide (p < 2) = false ∧ decide (15 < p) = true) := by
    simp only [decide_eq_true_eq, decide_eq_false_iff_not]
    omega
  clear hb
  go_enter Try.func10, Try.ntmps10
  go_upto_region 1 with fail
  generalize w.alloc (.cells #[.int .i64 0, .int .i64 0, .slice none 0 0] 26) = w1 at *
  rcases hcases with a1 | ⟨a1, a2⟩ | ⟨a1, a2, a3⟩ | ⟨a1, a2, a3, a4⟩
  all_goals go_wp2_with (refine wpList_store_row rfl 26 _ _ rfl _ _ rfl rfl 26 _ H8.out size_lpc rfl (one_lpc _ _ _ _ _) ?_)
  all_goals exact bodyPost_ret (results_lpc rfl _ _ w.heap.size _ 1 rfl (heap_row _ H8.out) rfl rfl) rfl ⟨_, rfl, World.ownsRow_nil _ _ _ _, K0.out.setRow (.inr (Nat.le_refl _)) _⟩

set_option maxRecDepth 10000 in
set_option maxHeartbeats 2000000 in
theorem quant_good (v : Value) (zs : List Int) (P : Nat) (w : World) (hz : Sl w v (ivs zs)) (hw : ∀ n ∈ zs, (Lit.int .i64 n).wf = true) (hl1 : 1 ≤ zs.length) (hl2 : zs.length ≤ 32) (h2 : 2 ≤ P) (h15 : P ≤ 15) :
    Calls Try.prog 10 #[v, .int .i64 (P : Int)] w (QPostR (qgood zs P) w) := by
  obtain ⟨ao, ca, rfl, -⟩ := hz.ints
  obtain ⟨h8, k0, hsz⟩ := q_start w _ rfl
  have H8 := Lib.hid h8
  have K0 := Lib.hid k0
  have FU := Lib.hid (furthest_any _ zs _ (hz.nix k0) hw)
  have GS := Lib.hid (gshift_any (far zs) P (w.alloc (.cells #[.int .i64 0, .int .i64 0, .slice none 0 0] 26)) h2 h15)
  have CO := Lib.hid (fun s (hs : shOf (far zs) P = some s) => coarse_any _ zs P s _ (hz.nix k0) h2 h15 (fit_of h2 h15 hs).1 hl2 (fit_of h2 h15 hs).2)
  have a1 : decide ((zs.length : Int) < 1) = false := decide_eq_false (by omega)
  have a2 : decide (32 < (zs.length : Int)) = false := decide_eq_false (by omega)
  have a3 : decide ((P : Int) < 2) = false := decide_eq_false (by omega)
  have a4 : decide (15 < (P : Int)) = false := decide_eq_false (by omega)
  have HSZ := Lib.hid hsz
  clear hz h8 k0 hsz hw hl1 hl2 h2 h15
  cases hs : shOf (far zs) P with
  | none =>
    rw [qgood_none hs]
    unfold gsN at GS
    rw [hs] at GS
    simp only [Option.isSome_none] at GS
    clear hs CO
    generalize zs.length = n at *
    generalize far zs = F at *
    go_enter Try.func10, Try.ntmps10
    go_upto_region 1 with fail
    generalize w.alloc (.cells #[.int .i64 0, .int .i64 0, .slice none 0 0] 26) = w1 at *
    go_upto_region 4 with (go_at_call 14; refine FU.out.mono ?_; rintro e w2 ⟨rfl, rfl⟩; clear FU)
    go_upto_region 5 with (go_at_call 15; refine GS.out.mono ?_; rintro e w2 ⟨rfl, rfl⟩; clear GS)
    clear a1 a2 a3 a4
    cases hF : ((F : Int) == 0)
    all_goals go_wp2_with (refine wpList_store_row rfl 26 _ _ rfl _ _ rfl rfl 26 _ H8.out size_lpc rfl (one_lpc _ _ _ _ _) ?_)
    all_goals exact bodyPost_ret (results_lpc rfl _ _ w.heap.size _ 6 rfl (heap_row _ H8.out) rfl rfl) rfl ⟨_, rfl, World.ownsRow_nil _ _ _ _, K0.out.setRow (.inr (Nat.le_refl _)) _⟩
  | some s =>
    have QZ := Lib.hid (fun h => qgood_zero (zs := zs) (P := P) h)
    have QS := Lib.hid (fun h => qgood_some hs h)
    unfold gsN at GS
    rw [hs] at GS
    simp only [Option.isSome_some] at GS
    have C1 := Lib.hid (CO.out s hs)
    have HL2 := Lib.hid (tolds_length (2 ^ (P - 1)) (2 ^ s) zs)
    clear hs CO
    generalize tolds (2 ^ (P - 1)) (2 ^ s) zs = L at *
    generalize zs.length = n at *
    by_cases h0 : far zs = 0
    · have hF : (((far zs : Nat) : Int) == 0) = true := by rw [h0]; rfl
      rw [QZ.out h0]
      clear h0 QZ QS
      generalize far zs = F at *
      go_enter Try.func10, Try.ntmps10
      go_upto_region 1 with fail
      generalize w.alloc (.cells #[.int .i64 0, .int .i64 0, .slice none 0 0] 26) = w1 at *
      go_upto_region 4 with (go_at_call 14; refine FU.out.mono ?_; rintro e w2 ⟨rfl, rfl⟩; clear FU)
      go_upto_region 5 with (go_at_call 15; refine GS.out.mono ?_; rintro e w2 ⟨rfl, rfl⟩; clear GS)
      clear a1 a2 a3 a4
      go_wp2_with (refine wpList_store_row rfl 26 _ _ rfl _ _ rfl rfl 26 _ H8.out size_lpc rfl (one_lpc _ _ _ _ _) ?_)
      exact bodyPost_ret (results_lpc rfl _ _ w.heap.size _ 6 rfl (heap_row _ H8.out) rfl rfl) rfl ⟨_, rfl, World.ownsRow_nil _ _ _ _, K0.out.setRow (.inr (Nat.le_refl _)) _⟩
    · have hF : (((far zs : Nat) : Int) == 0) = false := beq_false_of_ne (by omega)
      rw [QS.out h0]
      clear h0 QZ QS
      generalize far zs = F at *
      go_enter Try.func10, Try.ntmps10
      go_upto_region 1 with fail
      generalize w.alloc (.cells #[.int .i64 0, .int .i64 0, .slice none 0 0] 26) = w1 at *
      go_upto_region 4 with (go_at_call 14; refine FU.out.mono ?_; rintro e w2 ⟨rfl, rfl⟩; clear FU)
      go_upto_region 5 with (go_at_call 15; refine GS.out.mono ?_; rintro e w2 ⟨rfl, rfl⟩; clear GS)
      clear a1 a2 a3 a4
      go_upto_region 7 with fail
      clear hF
      go_wp2_with (first
        | (go_at_call 16; refine C1.out.mono ?_; rintro e w3 ⟨u, rfl, o3, k3⟩; obtain ⟨uo, uc, rfl, -, -⟩ := owns_shape o3; have O3 := Lib.hid o3; have K3 := Lib.hid k3; have H3 := Lib.hid (k3.heap H8.out id); clear o3 k3 C1)
        | (refine wpList_store_row rfl 26 _ _ rfl _ _ rfl rfl 26 _ H3.out size_lpc rfl (one_lpc _ _ _ _ _) ?_))
      refine bodyPost_ret (results_lpc rfl _ _ w.heap.size _ 0 rfl (heap_row _ H3.out) rfl rfl) rfl ⟨_, rfl, ?_, (nix_trans K0.out K3.out).setRow (.inr (Nat.le_refl _)) _⟩
      have h := owns_set_low O3.out w.heap.size HSZ.out #[.int .i64 (s : Int), .int .i64 (P : Int), .slice uo n uc]
      rw [HL2.out]
      exact owns_weak h (Nat.le_of_lt HSZ.out)

/-- What is wrong, or what a predictor comes to, of any factors. -/
def QPost (zs : List Int) (p : Int) (w : World) (e : Ending) (w' : World) : Prop := QPostR (qz zs p) w e w'

theorem quant_any (v : Value) (zs : List Int) (p : Int) (w : World) (hz : Sl w v (ivs zs)) (hw : ∀ n ∈ zs, (Lit.int .i64 n).wf = true) :
    Calls Try.prog 10 #[v, .int .i64 p] w (QPost zs p w) := by
  unfold QPost
  by_cases hb : zs.length < 1 ∨ 32 < zs.length ∨ p < 2 ∨ 15 < p
  · rw [qz_bad hb]
    exact quant_bad v zs p w hz hb
  · obtain ⟨P, rfl⟩ : ∃ P : Nat, p = (P : Int) := ⟨p.toNat, by omega⟩
    rw [qz_good hb]
    exact quant_good v zs P w hz hw (by omega) (by omega) (by omega) (by omega)

end Go.Proofs.Ytgcokligilfkgaa
