/- Package fixed: Factors. -/
import Derived.Test.YtkpmofomlplihaaNear
namespace Go.Proofs.Ytkpmofomlplihaa
open Go.RowKit Bx

theorem fac_else (order : Int) (h1 : ¬ order = 1) (h2 : ¬ order = 2) (h3 : ¬ order = 3) (h4 : ¬ order = 4) : fac order.toNat = [] := by
  unfold fac
  split <;> first | rfl | omega

def FacPost (order : Int) (w : World) (e : Ending) (w' : World) : Prop :=
  ∃ u, e = .returned u ∧ w'.ownsRow w.heap.size 3 1 u (fac order.toNat).length (ivs (fac order.toNat)) ∧ Kept Nix w w'

set_option maxHeartbeats 1000000 in
theorem factors_any (order : Int) (w : World) : Calls Try.prog 19 #[.int .i64 order] w (FacPost order w) := by
  by_cases h1 : order = 1
  · subst h1
    go_enter Try.func19, Try.ntmps19
    go_wp2
    go_ret
    exact ⟨_, rfl, lit_row w [1] 1 rfl (by decide), (Kept.refl _ w).alloc _⟩
  by_cases h2 : order = 2
  · subst h2
    go_enter Try.func19, Try.ntmps19
    go_wp2
    go_ret
    exact ⟨_, rfl, lit_row w [2, -1] 2 rfl (by decide), (Kept.refl _ w).alloc _⟩
  by_cases h3 : order = 3
  · subst h3
    go_enter Try.func19, Try.ntmps19
    go_wp2
    go_ret
    exact ⟨_, rfl, lit_row w [3, -3, 1] 3 rfl (by decide), (Kept.refl _ w).alloc _⟩
  by_cases h4 : order = 4
  · subst h4
    go_enter Try.func19, Try.ntmps19
    go_wp2
    go_ret
    exact ⟨_, rfl, lit_row w [4, -6, 4, -1] 4 rfl (by decide), (Kept.refl _ w).alloc _⟩
  have HE := Lib.hid (fac_else order h1 h2 h3 h4)
  have d1 : (order == 1) = false := beq_false_of_ne h1
  have d2 : (order == 2) = false := beq_false_of_ne h2
  have d3 : (order == 3) = false := beq_false_of_ne h3
  have d4 : (order == 4) = false := beq_false_of_ne h4
  clear h1 h2 h3 h4
  go_enter Try.func19, Try.ntmps19
  go_wp2
  go_ret
  refine ⟨_, rfl, ?_, Kept.refl _ w⟩
  rw [HE.out]
  exact World.ownsRow_nil _ _ _ _

end Go.Proofs.Ytkpmofomlplihaa
