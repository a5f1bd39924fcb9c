/- The contract of digest.kinds. -/
import Derived.Test.YtfcidddpoofjgaaDoorTold
namespace Go.Proofs.YtfcidddpoofjgaaDoor
open Go.RowKit Bx Md

/-- A kind's row, as cells. -/
def kd (f t p a b c d : Nat) : List Value := [.func (.func f) #[] #[], .int .i64 (t : Int), .int .i64 (p : Int), .int .i64 (a : Int), .int .i64 (b : Int), .int .i64 (c : Int), .int .i64 (d : Int)]
def kds : List Value := kd 27 1 0 7 12 17 22 ++ kd 28 5 1 5 9 14 20 ++ kd 29 3 5 4 11 16 23 ++ kd 30 7 0 6 10 15 21

theorem size_rows : (Tryd.prog.info? 59).map (·.size) = some 28 := by kernel_rfl

set_option maxHeartbeats 400000 in
theorem kinds_any (w : World) : Calls Tryd.prog 25 #[] w fun e w' => e = .returned (.agg kds.toArray) ∧ Kept Nix w w' := by
  go_enter Tryd.func25, Tryd.ntmps25
  go_upto_region 1 with fail
  have hh : (w.alloc (Obj.cells #[Value.nilFunc, Value.int IntKind.i64 0, Value.int IntKind.i64 0, Value.int IntKind.i64 0,
                    Value.int IntKind.i64 0, Value.int IntKind.i64 0, Value.int IntKind.i64 0, Value.nilFunc,
                    Value.int IntKind.i64 0, Value.int IntKind.i64 0, Value.int IntKind.i64 0, Value.int IntKind.i64 0,
                    Value.int IntKind.i64 0, Value.int IntKind.i64 0, Value.nilFunc, Value.int IntKind.i64 0,
                    Value.int IntKind.i64 0, Value.int IntKind.i64 0, Value.int IntKind.i64 0, Value.int IntKind.i64 0,
                    Value.int IntKind.i64 0, Value.nilFunc, Value.int IntKind.i64 0, Value.int IntKind.i64 0,
                    Value.int IntKind.i64 0, Value.int IntKind.i64 0, Value.int IntKind.i64 0, Value.int IntKind.i64 0]
                  59)).heap[w.heap.size]? = some (.cells _ 59 (0, 0)) := heap_alloc_new w _
  have hk := (Kept.refl Nix w).alloc (Obj.cells #[Value.nilFunc, Value.int IntKind.i64 0, Value.int IntKind.i64 0, Value.int IntKind.i64 0,
                    Value.int IntKind.i64 0, Value.int IntKind.i64 0, Value.int IntKind.i64 0, Value.nilFunc,
                    Value.int IntKind.i64 0, Value.int IntKind.i64 0, Value.int IntKind.i64 0, Value.int IntKind.i64 0,
                    Value.int IntKind.i64 0, Value.int IntKind.i64 0, Value.nilFunc, Value.int IntKind.i64 0,
                    Value.int IntKind.i64 0, Value.int IntKind.i64 0, Value.int IntKind.i64 0, Value.int IntKind.i64 0,
                    Value.int IntKind.i64 0, Value.nilFunc, Value.int IntKind.i64 0, Value.int IntKind.i64 0,
                    Value.int IntKind.i64 0, Value.int IntKind.i64 0, Value.int IntKind.i64 0, Value.int IntKind.i64 0]
                  59)
  generalize w.alloc _ = w1 at *
  have HH := Lib.hid hh
  have HK := Lib.hid hk
  clear hh hk
  go_wp2_with (first | (refine wpList_store_row rfl 59 _ _ rfl _ _ rfl rfl 59 _ HH.out (by kernel_rfl) (by kernel_rfl) (by kernel_rfl) ?_))
  refine ret_row (by rfl) w.heap.size 59 _ (0, 0) _ rfl (heap_row _ HH.out) Tryd.underlying59 rfl size_rows rfl ⟨by kernel_rfl, HK.out.setRow (.inr (Nat.le_refl _)) _⟩

end Go.Proofs.YtfcidddpoofjgaaDoor
