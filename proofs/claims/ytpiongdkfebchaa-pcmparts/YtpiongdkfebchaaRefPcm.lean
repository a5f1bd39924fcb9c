/- The reference of layer 6: Power, In, wrong, Many, Each, Few. -/
import Derived.Test.YtpiongdkfebchaaPcmLeaf
namespace Go.Proofs.Ytpiongdkfebchaa
open Go.RowKit Bx

def PowInv (n : Nat) (w : World) (a : Act) (w' : World) : Prop :=
  a.defers = [] ∧ a.tmps.size = 13 ∧ a.tmps[0]? = some (.int .i64 (n : Int)) ∧ ∃ i : Nat, i ≤ n ∧ a.tmps[4]? = some (.int .i64 (i : Int)) ∧ a.tmps[3]? = some (.int .i64 (2 ^ i)) ∧ w' = w

theorem pow_step (i : Nat) (h : i ≤ 60) : wrap64 (2 * 2 ^ i) = 2 ^ (i + 1) := by
  have := pow_61 i (by omega)
  rw [Int.pow_succ, Int.mul_comm ((2 : Int) ^ i)]
  generalize (2 : Int) ^ i = t at *
  exact w64_in _ (by omega)

set_option maxHeartbeats 400000 in
theorem rpower_any (n : Nat) (hn : n ≤ 61) (w : World) : Calls Try.prog 32 #[.int .i64 (n : Int)] w fun e w' => e = .returned (.int .i64 (2 ^ n)) ∧ w' = w := by
  go_enter Try.func32, Try.ntmps32
  go_wp2
  refine wp_loop (PowInv n w) (fun a _ => n - (intOf (a.tmps.getD 4 undef)).toNat) ?_ ?_
  · exact ⟨rfl, rfl, rfl, 0, Nat.zero_le _, rfl, by simp, rfl⟩
  · rintro ⟨tm, df⟩ w1 ⟨rfl, hs, e0, i, hi, e4, e3, rfl⟩
    simp only at hs e0 e4 e3
    obtain ⟨f, hf, hg⟩ := fr_open hs
    have g0 := hg _ _ e0
    have g4 := hg _ _ e4
    have g3 := hg _ _ e3
    simp only [List.range, List.range.loop, List.map] at hf
    rw [g0, g4, g3] at hf
    clear g0 g4 g3 hg hs e0 e4 e3
    subst hf
    by_cases hlt : i < n
    · have hd : decide ((i : Int) < (n : Int)) = true := decide_eq_true (by omega)
      have hw := pow_step i (by omega)
      generalize hp : (2 : Int) ^ i = p at *
      generalize hp2 : (2 : Int) ^ (i + 1) = p2 at *
      have HP := Lib.hid hp2
      clear hp hp2
      go_wp2
      rw [hw]
      refine ⟨⟨rfl, rfl, rfl, i + 1, hlt, by simp, ?_, rfl⟩, ?_⟩
      · rw [HP.out]; rfl
      · simp [intOf]; omega
    · have hin : i = n := by omega
      subst hin
      have hd : decide ((i : Int) < (i : Int)) = false := by simp
      clear hlt hi
      go_wp2
      go_ret
      exact ⟨rfl, rfl⟩

theorem rin_any (n d : Int) (w : World) : Calls Try.prog 16 #[.int .i64 n, .int .i64 d] w fun e w' => e = .returned (.bool (inD n d)) ∧ w' = w := by
  by_cases hd : d < 1 ∨ 62 < d
  · rw [in_out n d hd]
    go_enter Try.func16, Try.ntmps16
    go_wp2_with fail
    all_goals first
      | (go_ret; exact ⟨rfl, rfl⟩)
      | (exfalso; omega)
  · have h1 : 1 ≤ d := by omega
    have h2 : d ≤ 62 := by omega
    clear hd
    obtain ⟨e1, e2⟩ := wrap_half d h1 h2
    obtain ⟨D, rfl⟩ : ∃ D : Nat, d = (D : Int) := ⟨d.toNat, by omega⟩
    rw [in_some n D h1 h2]
    have HP := rpower_any (D - 1) (by omega)
    rw [show ((D - 1 : Nat) : Int) = (D : Int) - 1 by omega] at HP
    simp only [Int.toNat_natCast] at e1 e2 ⊢
    obtain ⟨T, hT⟩ : ∃ T : Int, (2 : Int) ^ (D - 1) = T := ⟨_, rfl⟩
    simp only [hT] at HP e1 e2 ⊢
    clear hT
    have ht : (decide ((D : Int) < 1) || decide (62 < (D : Int))) = false := by simp; omega
    go_enter Try.func16, Try.ntmps16
    go_wp2_with (go_at_call 32; refine (HP _).mono ?_; rintro e w1 ⟨rfl, rfl⟩)
    · rename_i h
      go_ret
      rw [decide_eq_true h]
      exact ⟨rfl, rfl⟩
    · rename_i h
      go_ret
      rw [decide_eq_false (show ¬ (-T ≤ n) by omega)]
      exact ⟨rfl, rfl⟩

theorem rwrong_any (r d c : Int) (w : World) : Calls Try.prog 31 #[.int .i64 r, .int .i64 d, .int .i64 c] w fun e w' => e = .returned (.int .i64 (kindE r d c)) ∧ w' = w := by
  go_enter Try.func31, Try.ntmps31
  go_wp2
  all_goals (go_ret; refine ⟨ret_int ?_, rfl⟩; unfold kindE; repeat' split)
  all_goals first | rfl | (exfalso; omega)

theorem reach_any (d : Int) (w : World) : Calls Try.prog 18 #[.int .i64 d] w fun e w' => e = .returned (.int .i64 ((eachN d : Nat) : Int)) ∧ w' = w := by
  go_enter Try.func18, Try.ntmps18
  go_wp2
  all_goals (go_ret; refine ⟨ret_int ?_, rfl⟩; unfold eachN)
  all_goals omega

theorem rmany_any (r d : Int) (v : Value) (L : List (List Int)) (w : World) (h : Chs w v L) : Calls Try.prog 14 #[.agg #[.int .i64 r, .int .i64 d, v]] w fun e w' => e = .returned (.int .i64 ((manyN L : Nat) : Int)) ∧ Kept Nix w w' := by
  obtain ⟨ao, cap, rfl, hc, hm, hp⟩ := h.open
  have HP := Lib.hid hp
  clear hp hc hm h
  by_cases h0 : L.length = 0
  · have hl : L = [] := List.eq_nil_of_length_eq_zero h0
    subst hl
    clear HP
    go_enter Try.func14, Try.ntmps14
    go_wp2
    go_ret
    exact ⟨rfl, (Kept.refl _ w).alloc _⟩
  · obtain ⟨b, off, rfl, hb, A, C, hh⟩ := HP.out (by omega)
    have hcell := (hh 0 (by omega)).1
    rw [Nat.add_zero] at hcell
    have ht : ((L.length : Int) == 0) = false := beq_eq_false_iff_ne.2 (by omega)
    have h0' : 0 < L.length := by omega
    have h1' : (0 : Int) < (L.length : Int) := by omega
    have hne : b ≠ w.heap.size := by omega
    have hcell2 : (w.alloc (.cells #[.int .i64 r, .int .i64 d, .slice (some ⟨b, off, none⟩) L.length cap] 24)).cell? ⟨b, off, none⟩ = some (.slice (A 0) (L.getD 0 []).length (C 0)) := (World.cell?_of_block (Below.heap_alloc _ _ _ hb)).trans hcell
    clear hh HP h0 hcell
    unfold manyN
    generalize (L.getD 0 []).length = m at *
    generalize A 0 = a0 at *
    generalize C 0 = c0 at *
    go_enter Try.func14, Try.ntmps14
    go_wp2
    go_ret
    exact ⟨rfl, (Kept.refl _ w).alloc _⟩

/-- Of a size that is looked at. -/
def fewB (L : List (List Int)) : Bool := L.all (fun c => decide (c.length ≤ 50)) && decide (L.length ≤ 10)

def FewInv (p : Nat) (L : List (List Int)) (w : World) (a : Act) (w' : World) : Prop :=
  a.defers = [] ∧ a.tmps.size = 25 ∧ a.tmps[2]? = some (.pointer (some ⟨p, 0, none⟩)) ∧ a.tmps[1]? = some (.int .i64 50) ∧ ∃ i : Nat, i ≤ L.length ∧ a.tmps[5]? = some (.int .i64 (i : Int)) ∧ (∀ j, j < i → (L.getD j []).length ≤ 50) ∧ w' = w

set_option maxHeartbeats 400000 in
theorem rfew_any (r d : Int) (v : Value) (L : List (List Int)) (w : World) (h : Chs w v L) : Calls Try.prog 10 #[.agg #[.int .i64 r, .int .i64 d, v], .int .i64 50] w fun e w' => e = .returned (.bool (fewB L)) ∧ Kept Nix w w' := by
  obtain ⟨ao, cap, rfl, hc, hm, hp⟩ := h.open
  have hlm : L.length ≤ 9223372036854775807 := by simp [maxLen] at hm; omega
  have HLM := Lib.hid hlm
  have hch := h.nix ((Kept.refl Nix w).alloc (.cells #[.int .i64 r, .int .i64 d, .slice ao L.length cap] 24))
  have hbx : (w.alloc (.cells #[.int .i64 r, .int .i64 d, .slice ao L.length cap] 24)).heap[w.heap.size]? = some (.cells #[.int .i64 r, .int .i64 d, .slice ao L.length cap] 24 (0, 0)) := heap_alloc_new w _
  have hk : Kept Nix w (w.alloc (.cells #[.int .i64 r, .int .i64 d, .slice ao L.length cap] 24)) := (Kept.refl Nix w).alloc _
  clear hp hc hm h hlm
  have HCH := Lib.hid hch
  have HBX := Lib.hid hbx
  have HK := Lib.hid hk
  clear hch hbx hk
  go_enter Try.func10, Try.ntmps10
  go_wp2
  generalize w.alloc (.cells #[.int .i64 r, .int .i64 d, .slice ao L.length cap] 24) = w1 at *
  have hx : w1.cell? ⟨w.heap.size, 2, none⟩ = some (.slice ao L.length cap) := by rw [cell_of HBX.out]; rfl
  refine wp_loop (FewInv w.heap.size L w1) (fun a _ => L.length - (intOf (a.tmps.getD 5 undef)).toNat) ?_ ?_
  · exact ⟨rfl, rfl, rfl, rfl, 0, Nat.zero_le _, rfl, fun j hj => absurd hj (Nat.not_lt_zero j), rfl⟩
  · rintro ⟨tm, df⟩ w2 ⟨rfl, hs, e2, e1, i, hi, e5, hall, rfl⟩
    simp only at hs e2 e1 e5
    obtain ⟨f, hf, hg⟩ := fr_open hs
    have g2 := hg _ _ e2
    have g1 := hg _ _ e1
    have g5 := hg _ _ e5
    simp only [List.range, List.range.loop, List.map] at hf
    rw [g2, g1, g5] at hf
    clear g2 g1 g5 hg hs e2 e1 e5
    subst hf
    have HALL := Lib.hid hall
    clear hall
    by_cases hlt : i < L.length
    · obtain ⟨b, off, rfl, hb, A, C, hh⟩ := HCH.out.at (by omega)
      have hcell := (hh i hlt).1
      have hd : decide ((i : Int) < (L.length : Int)) = true := decide_eq_true (by omega)
      have hi1 : (i : Int) < (L.length : Int) := by omega
      have HI := Lib.hid hlt
      have hwi : wrap64 ((i : Int) + 1) = ((i + 1 : Nat) : Int) := by rw [w64_in _ (by have := HLM.out; omega)]; simp
      clear hh hi hlt hb
      generalize A i = ai at *
      generalize C i = ci at *
      by_cases hq : (L.getD i []).length ≤ 50
      · have HQ := Lib.hid hq
        have hdq : decide (50 < ((L.getD i []).length : Int)) = false := decide_eq_false (by omega)
        clear hq
        generalize hli : (L.getD i []).length = li at *
        have HLI := Lib.hid hli
        clear hli
        go_wp2
        rw [hwi]
        refine ⟨⟨rfl, rfl, rfl, rfl, i + 1, HI.out, rfl, fun j hj => ?_, rfl⟩, ?_⟩
        · by_cases hji : j = i
          · subst hji; rw [HLI.out]; exact HQ.out
          · exact HALL.out j (by omega)
        · have := HI.out
          simp [intOf]
          omega
      · have hf0 : fewB L = false := by
          unfold fewB
          rw [Bool.and_eq_false_iff]
          refine .inl ?_
          rw [List.all_eq_false]
          have hi0 := HI.out
          refine ⟨L[i], List.getElem_mem hi0, ?_⟩
          simp only [List.getD, List.getElem?_eq_getElem hi0, Option.getD_some] at hq
          simpa using hq
        have hdq : decide (50 < ((L.getD i []).length : Int)) = true := decide_eq_true (by omega)
        clear hq
        generalize (L.getD i []).length = li at *
        have HF := Lib.hid hf0
        clear hf0
        go_wp2
        go_ret
        exact ⟨by rw [HF.out]; rfl, HK.out⟩
    · have hd : decide (i < L.length) = false := decide_eq_false (by omega)
      have hf0 : fewB L = decide ((L.length : Int) ≤ 10) := by
        unfold fewB
        have h1 : L.all (fun c => decide (c.length ≤ 50)) = true := by
          rw [List.all_eq_true]
          intro c hc
          obtain ⟨j, hj, rfl⟩ := List.getElem_of_mem hc
          have := HALL.out j (by omega)
          simp only [List.getD, List.getElem?_eq_getElem hj, Option.getD_some] at this
          simpa using this
        rw [h1, Bool.true_and, decide_eq_decide]
        omega
      have HF := Lib.hid hf0
      clear hf0 hlt hi
      go_wp2
      go_ret
      exact ⟨by rw [HF.out]; rfl, HK.out⟩

end Go.Proofs.Ytpiongdkfebchaa
