/- Orders of package lags, in numbers. No program. -/
import Derived.Test.YtdifaaimjiflgaaLagMath
namespace Go.Proofs.Ytdifaaimjiflgaa
open Go.RowKit Bx

theorem many_nat (n : Nat) : many (n : Int) = min n 32 + 1 := by unfold many; omega
theorem many_top (o : Int) : many o ≤ 33 := by unfold many; omega
theorem ord_u8 (o : Nat) : ∃ n : Nat, (o : Int) % 33 = (n : Int) ∧ n ≤ 32 := ⟨o % 33, by omega, by omega⟩
theorem lags_take (ys : List Int) (n m : Nat) (h : n ≤ m) : (lags ys m).take n = lags ys n := by
  unfold lags
  rw [← List.map_take, List.take_range, Nat.min_eq_left h]

end Go.Proofs.Ytdifaaimjiflgaa
