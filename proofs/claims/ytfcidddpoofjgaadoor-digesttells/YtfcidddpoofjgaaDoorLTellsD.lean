/- The walks of DigestTells and DigestFills: the reference's contract joined. -/
import Derived.Test.YtfcidddpoofjgaaDoorLFills
import Derived.Test.YtfcidddpoofjgaaDoorRefOf5
namespace Go.Proofs.YtfcidddpoofjgaaDoor
open Go.RowKit Bx Md

theorem rof_spec : RofSpec := fun v B w hs hB hl => rof_any v B w hs hB hl

theorem walk_DigestTells (w : World) (hT : Tab w) (v : Value) (zs : List Int) (s : Sl w v (zs.map (Value.int .u8))) (hz : ∀ n ∈ zs, (Lit.int .u8 n).wf = true) :
    Calls Tryd.prog 3 #[v] w fun e w' => e = .returned (.bool true) ∧ Kept Nix w w' := walk_tells rof_spec w hT v zs s hz

theorem walk_DigestFills (w : World) (hT : Tab w) (a0 : Int) (h0 : (Lit.int .u8 a0).wf = true) (a1 : Int) (h1 : (Lit.int .u8 a1).wf = true) :
    Calls Tryd.prog 7 #[.int .u8 a0, .int .u8 a1] w fun e w' => e = .returned (.bool true) ∧ Kept Nix w w' := walk_fills rof_spec w hT a0 h0 a1 h1

end Go.Proofs.YtfcidddpoofjgaaDoor
