/- The reference's Cuts, for any orders. -/
import Derived.Test.YtlbnjclchmnomaaPk23
namespace Go.Proofs.Ytlbnjclchmnomaa
open Go.RowKit Bx

set_option maxRecDepth 10000 in
set_option maxHeartbeats 1000000 in
theorem rcuts_all (n : Nat) (k o : Int) (w : World) (hn : n ≤ 1048576) (hk : k ≤ 1048576) : Calls Try.prog 20 #[.int .i64 (n : Int), .int .i64 k, .int .i64 o] w (CutsPost n k o w) := by
  by_cases hf : k < 0 ∨ o < 0 ∨ 15 < o
  · have tn : decide ((n : Int) < 0) = false := decide_eq_false (by omega)
    have HP := Lib.hid (cuts_none (cuts_far (n := n) hf) w)
    rcases cuts_test hf with t1 | ⟨t1, t2⟩ | ⟨t1, t2, t3⟩
    all_goals
      clear hf hn hk
      go_enter Try.func20, Try.ntmps20
      go_wp2
      go_ret
      exact HP.out
  · obtain ⟨K, rfl⟩ : ∃ K : Nat, k = (K : Int) := ⟨k.toNat, by omega⟩
    obtain ⟨O, rfl⟩ : ∃ O : Nat, o = (O : Int) := ⟨o.toNat, by omega⟩
    exact rcuts_any n K O w hn (by omega) (by omega)

end Go.Proofs.Ytlbnjclchmnomaa
