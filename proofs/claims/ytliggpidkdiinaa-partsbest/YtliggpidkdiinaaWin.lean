/- A window of a slice of integers: x[lo:hi]. -/
import Derived.Test.YtliggpidkdiinaaNear
import Derived.Test.YtliggpidkdiinaaFill
namespace Go.Proofs.Ytliggpidkdiinaa
open Go.RowKit Bx

/-- A slice of integers from lo to hi. -/
theorem run_win_i (w : World) (ao : Option Addr) (len cap lo hi : Nat) (h1 : lo ≤ hi) (h2 : hi ≤ cap) : (Instr.slice 22 (.slice ao len cap) (some (.int .i64 (lo : Int))) (some (.int .i64 (hi : Int))) none).run Try.prog w = .ok (.slice (if cap = lo then ao else ao.map (fun x => x.add lo)) (hi - lo) (cap - lo)) w := by
  have ht : Try.prog.underlying 22 = some (.slice (Try.prog.elem 22)) := by rw [elem_ints]; exact Try.underlying22
  rw [run_slice_lh w 22 ao len cap ht .i64 .i64 (lo : Int) (hi : Int) (by omega) (by omega) (by omega), elem_ints, size_int]
  simp [sliced]

/-- Those just ahead, as a slice. -/
theorem sl_win {w : World} {ao : Option Addr} {len cap : Nat} {zs : List Int} (h : Sl w (.slice ao len cap) (ivs zs)) (i n : Nat) (hk : i + n ≤ len) : Sl w (.slice (if cap = i then ao else ao.map (fun x => x.add i)) n (cap - i)) (ivs ((zs.drop i).take n)) :=
  sl_take_i (sl_drop_i h i (by omega)) n (by omega)

end Go.Proofs.Ytliggpidkdiinaa
