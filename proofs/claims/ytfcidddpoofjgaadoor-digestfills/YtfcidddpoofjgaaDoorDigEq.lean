/- Two digests, compared. -/
import Derived.Test.YtfcidddpoofjgaaDoorAwake05
namespace Go.Proofs.YtfcidddpoofjgaaDoor
open Go.RowKit Bx Md

set_option maxRecDepth 10000 in
set_option maxHeartbeats 4000000 in
theorem eq16 (a0 a1 a2 a3 a4 a5 a6 a7 a8 a9 a10 a11 a12 a13 a14 a15 : Int) (w : World) :
    (Op.equalIn 10000 24 (.agg #[.int .u8 a0, .int .u8 a1, .int .u8 a2, .int .u8 a3, .int .u8 a4, .int .u8 a5, .int .u8 a6, .int .u8 a7, .int .u8 a8, .int .u8 a9, .int .u8 a10, .int .u8 a11, .int .u8 a12, .int .u8 a13, .int .u8 a14, .int .u8 a15])
      (.agg #[.int .u8 a0, .int .u8 a1, .int .u8 a2, .int .u8 a3, .int .u8 a4, .int .u8 a5, .int .u8 a6, .int .u8 a7, .int .u8 a8, .int .u8 a9, .int .u8 a10, .int .u8 a11, .int .u8 a12, .int .u8 a13, .int .u8 a14, .int .u8 a15])).run Tryd.prog w = .ok true w := by
  have u3 := Tryd.underlying5
  have a3 := Tryd.isAgg5
  have z3 := Tryd.sizeOf5
  rw [show (10000 : Nat) = 9999 + 1 from rfl, Op.equalIn]
  simp only [Sem.run_bind, run_underlying Tryd.underlying24, Result.andThen_ok]
  simp only [Std.Legacy.Range.forIn_eq_forIn_range', Std.Legacy.Range.size, Nat.sub_zero, Nat.add_sub_cancel, Nat.div_one, List.range'_succ, List.range'_zero, List.forIn_cons, List.forIn_nil]
  go_simp

theorem eq_md (L : List Nat) (w : World) : (Op.equalIn 10000 24 (.agg (u8s (md L)).toArray) (.agg (u8s (md L)).toArray)).run Tryd.prog w = .ok true w :=
  eq16 _ _ _ _ _ _ _ _ _ _ _ _ _ _ _ _ w

end Go.Proofs.YtfcidddpoofjgaaDoor
