/- Package pcm: In, checkKind, Many, Each, places. -/
import Derived.Test.YtpiongdkfebchaaKit
import Derived.Test.YtpiongdkfebchaaPcmMath
import Derived.Test.YtpiongdkfebchaaChs
import Derived.Test.YtpiongdkfebchaaInts
namespace Go.Proofs.Ytpiongdkfebchaa
open Go.RowKit Bx

theorem pow_61 (k : Nat) (h : k ≤ 61) : (1 : Int) ≤ 2 ^ k ∧ (2 : Int) ^ k ≤ 2305843009213693952 := by
  have h1 : 2 ^ k ≤ 2305843009213693952 := Nat.le_trans (Nat.pow_le_pow_right (show 0 < 2 by omega) h) (by decide)
  have h2 := Nat.one_le_two_pow (n := k)
  have e : (2 : Int) ^ k = ((2 ^ k : Nat) : Int) := by simp
  rw [e]
  generalize 2 ^ k = x at *
  omega

theorem in_out (n d : Int) (h : d < 1 ∨ 62 < d) : inD n d = false := by
  unfold inD
  rcases h with h | h
  · rw [decide_eq_false (show ¬ (1 ≤ d) by omega)]; rfl
  · rw [decide_eq_false (show ¬ (d ≤ 62) by omega)]; simp

theorem in_some (n d : Int) (h1 : 1 ≤ d) (h2 : d ≤ 62) : inD n d = (decide (-(2 : Int) ^ (d.toNat - 1) ≤ n) && decide (n < (2 : Int) ^ (d.toNat - 1))) := by
  unfold inD
  rw [decide_eq_true h1, decide_eq_true h2]; rfl

theorem wrap_half (d : Int) (h1 : 1 ≤ d) (h2 : d ≤ 62) : wrap64 (2 ^ (d.toNat - 1)) = 2 ^ (d.toNat - 1) ∧ wrap64 (-2 ^ (d.toNat - 1)) = -2 ^ (d.toNat - 1) := by
  have := pow_61 (d.toNat - 1) (by omega)
  exact ⟨w64_in _ (by omega), w64_in _ (by omega)⟩

theorem in_any (n d : Int) (w : World) : Calls Try.prog 15 #[.int .i64 n, .int .i64 d] w fun e w' => e = .returned (.bool (inD n d)) ∧ w' = w := by
  by_cases hd : d < 1 ∨ 62 < d
  · rw [in_out n d hd]
    go_enter Try.func15, Try.ntmps15
    go_wp2
    all_goals first
      | (go_ret; exact ⟨rfl, rfl⟩)
      | (exfalso; omega)
  · have h1 : 1 ≤ d := by omega
    have h2 : d ≤ 62 := by omega
    clear hd
    obtain ⟨e1, e2⟩ := wrap_half d h1 h2
    rw [in_some n d h1 h2]
    have ht : (decide (d < 1) || decide (62 < d)) = false := by simp; omega
    go_enter Try.func15, Try.ntmps15
    go_wp2
    · rename_i h
      go_ret
      rw [decide_eq_true h]
      exact ⟨rfl, rfl⟩
    · rename_i h
      go_ret
      rw [decide_eq_false (show ¬ (-2 ^ (d.toNat - 1) ≤ n) by omega)]
      exact ⟨rfl, rfl⟩

theorem kind_any (r d c : Int) (w : World) : Calls Try.prog 29 #[.int .i64 r, .int .i64 d, .int .i64 c] w fun e w' => e = .returned (.int .i64 (kindE r d c)) ∧ w' = w := by
  go_enter Try.func29, Try.ntmps29
  go_wp2
  all_goals (go_ret; refine ⟨ret_int ?_, rfl⟩; unfold kindE; repeat' split)
  all_goals first | rfl | (exfalso; omega)

theorem each_any (d : Int) (w : World) : Calls Try.prog 17 #[.int .i64 d] w fun e w' => e = .returned (.int .i64 ((eachN d : Nat) : Int)) ∧ w' = w := by
  go_enter Try.func17, Try.ntmps17
  go_wp2
  all_goals (go_ret; refine ⟨ret_int ?_, rfl⟩; unfold eachN)
  all_goals omega

theorem places_any (c m : Int) (w : World) : Calls Try.prog 30 #[.int .i64 c, .int .i64 m] w fun e w' =>
    e = .returned (.func (.func 39) #[] #[.pointer (some ⟨w.heap.size + 1, 0, none⟩), .pointer (some ⟨w.heap.size, 0, none⟩)]) ∧ w' = (w.alloc (.cells #[.int .i64 c] 3)).alloc (.cells #[.int .i64 m] 3) := by
  go_enter Try.func30, Try.ntmps30
  go_wp2
  go_ret
  exact ⟨rfl, rfl⟩

theorem many_any (r d : Int) (v : Value) (L : List (List Int)) (w : World) (h : Chs w v L) : Calls Try.prog 13 #[.agg #[.int .i64 r, .int .i64 d, v]] w fun e w' => e = .returned (.int .i64 ((manyN L : Nat) : Int)) ∧ Kept Nix w w' := by
  obtain ⟨ao, cap, rfl, hc, hm, hp⟩ := h.open
  have HP := Lib.hid hp
  clear hp hc hm h
  by_cases h0 : L.length = 0
  · have hl : L = [] := List.eq_nil_of_length_eq_zero h0
    subst hl
    clear HP
    go_enter Try.func13, Try.ntmps13
    go_wp2
    go_ret
    exact ⟨rfl, (Kept.refl _ w).alloc _⟩
  · obtain ⟨b, off, rfl, hb, A, C, hh⟩ := HP.out (by omega)
    have hcell := (hh 0 (by omega)).1
    rw [Nat.add_zero] at hcell
    have ht : ((L.length : Int) == 0) = false := beq_eq_false_iff_ne.2 (by omega)
    have h0' : 0 < L.length := by omega
    have h1' : (0 : Int) < (L.length : Int) := by omega
    have hne : b ≠ w.heap.size := by omega
    have hcell2 : (w.alloc (.cells #[.int .i64 r, .int .i64 d, .slice (some ⟨b, off, none⟩) L.length cap] 24)).cell? ⟨b, off, none⟩ = some (.slice (A 0) (L.getD 0 []).length (C 0)) := (World.cell?_of_block (Below.heap_alloc _ _ _ hb)).trans hcell
    clear hh HP h0 hcell
    unfold manyN
    generalize (L.getD 0 []).length = m at *
    generalize A 0 = a0 at *
    generalize C 0 = c0 at *
    go_enter Try.func13, Try.ntmps13
    go_wp2
    go_ret
    exact ⟨rfl, (Kept.refl _ w).alloc _⟩

end Go.Proofs.Ytpiongdkfebchaa
