/- Package fixed: differences. -/
import Derived.Test.YtliggpidkdiinaaInts
import Derived.Test.YtliggpidkdiinaaFixMath
import Derived.Laws.OwnMore
namespace Go.Proofs.Ytliggpidkdiinaa
open Go.RowKit Bx

theorem ivs_get (zs : List Int) (i : Nat) (h : i < zs.length) : (ivs zs)[i]? = some (.int .i64 (zs.getD i 0)) := by simp [ivs, h]
theorem ivs_set (zs : List Int) (i : Nat) (z : Int) : (ivs zs).set i (.int .i64 z) = ivs (zs.set i z) := by simp [ivs, List.map_set]
theorem ivs_take (zs : List Int) (i : Nat) : (ivs zs).take i = ivs (zs.take i) := by simp [ivs, List.map_take]
theorem ivs_drop (zs : List Int) (i : Nat) : (ivs zs).drop i = ivs (zs.drop i) := by simp [ivs, List.map_drop]
theorem ivs_append (a b : List Int) : ivs (a ++ b) = ivs a ++ ivs b := by simp [ivs]

/-- A beginning of what is owned is owned. -/
theorem owns_less {w : World} {base g n cap m : Nat} {e : TypeId} {xs : List Value} (h : w.ownsRow base e 1 (.slice (some ⟨g, 0, none⟩) n cap) n xs) (hm : m ≤ n) : w.ownsRow base e 1 (.slice (some ⟨g, 0, none⟩) m cap) m (xs.take m) := by
  have hl := h.1
  rcases h.2 with ⟨h', _⟩ | ⟨g', cap', cur, h', hb, hg, hnc, hcm, hcs, htake⟩
  · simp at h'
  · simp only [Value.slice.injEq, Option.some.injEq, Addr.mk.injEq, and_true, true_and] at h'
    obtain ⟨rfl, rfl⟩ := h'
    refine ⟨by simp; omega, .inr ⟨g, cap, cur, rfl, hb, hg, by omega, hcm, hcs, ?_⟩⟩
    rw [← htake, List.take_take, Nat.mul_one, Nat.mul_one, Nat.min_eq_left hm]

theorem owns_cap {w : World} {base n cap : Nat} {ao : Option Addr} {e : TypeId} {size : Nat} {xs : List Value} (h : w.ownsRow base e size (.slice ao n cap) n xs) : n ≤ cap ∧ cap ≤ maxLen := by
  obtain ⟨ao', cap', e, hc1, hc2⟩ := owns_shape h
  simp only [Value.slice.injEq] at e
  rw [e.2.2]
  exact ⟨hc1, hc2⟩

theorem nearer {m i i' : Nat} (h : i < m) (e : i + 1 = i') : m - (intOf (.int .i64 (i' : Int))).toNat < m - (intOf (.int .i64 (i : Int))).toNat := by
  simp only [intOf, Int.toNat_natCast]
  omega

def DiffInv (base g n cap m : Nat) (zs : List Int) (w : World) (a : Act) (w' : World) : Prop :=
  a.defers = [] ∧ a.tmps.size = 29 ∧ a.tmps[0]? = some (.slice (some ⟨g, 0, none⟩) n cap) ∧ a.tmps[3]? = some (.int .i64 (m : Int)) ∧ a.tmps[8]? = some (.int .i64 (m : Int)) ∧
  ∃ i : Nat, i ≤ m ∧ a.tmps[9]? = some (.int .i64 (i : Int)) ∧ w'.ownsRow base 3 1 (.slice (some ⟨g, 0, none⟩) n cap) n (ivs (ov zs i)) ∧ Kept (One g) w w'

theorem diff_nums (n cap m i : Nat) (x y : Int) (hn : n = m + 1) (h : n ≤ cap) (hm : cap ≤ maxLen) (hi : i < m) (hx : -4611686018427387903 ≤ x ∧ x ≤ 4611686018427387903) (hy : -4611686018427387903 ≤ y ∧ y ≤ 4611686018427387903) :
    IntKind.i64.wrap ((i : Int) + 1) = ((i + 1 : Nat) : Int) ∧ wrap64 ((i : Int) + 1) = ((i + 1 : Nat) : Int) ∧ IntKind.i64.wrap (y - x) = y - x ∧ wrap64 (y - x) = y - x ∧ decide ((i : Int) < (m : Int)) = true ∧ (i : Int) < (n : Int) ∧ ((i + 1 : Nat) : Int) < (n : Int) ∧ i < n ∧ i + 1 < n := by
  simp only [maxLen] at hm
  have e1 : wrap64 ((i : Int) + 1) = ((i + 1 : Nat) : Int) := by unfold wrap64; omega
  have e2 : wrap64 (y - x) = y - x := by unfold wrap64; omega
  refine ⟨?_, e1, ?_, e2, ?_, ?_, ?_, ?_, ?_⟩
  · rw [IntWalk.i64_in _ (by omega)]; simp
  · exact IntWalk.i64_in _ (by omega)
  · exact decide_eq_true (by omega)
  all_goals omega

end Go.Proofs.Ytliggpidkdiinaa
