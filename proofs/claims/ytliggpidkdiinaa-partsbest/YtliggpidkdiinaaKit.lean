/- What every text on this program imports; two facts for all of them. -/
import Derived.Test.YtliggpidkdiinaaChecked
import Derived.Test.YtliggpidkdiinaaMath
import Derived.Test.YtliggpidkdiinaaSlice
import Derived.WalkKit
import Derived.WalkLawsBesides
import Derived.WalkSpells
import Derived.PlainAid
import Derived.WalkMore
import Derived.ScopeJumps
import Derived.StillTailTactics
import Derived.Deep.QuietTactic
import Derived.BigQuiet
import Derived.Outline
import Derived.Deep.Cut
import Derived.Lib.Hide
namespace Go.Proofs.Ytliggpidkdiinaa
open Go.RowKit Bx

theorem ret_int {k : IntKind} {a b : Int} (h : a = b) : Ending.returned (.int k a) = .returned (.int k b) := by rw [h]

theorem info_u8 : (Try.prog.info? 5).map (fun i => (i.zero, i.size, i.bytes)) = some (some (.int .u8 0), 1, 1) := by kernel_rfl

end Go.Proofs.Ytliggpidkdiinaa
