/- The walk of DigestTells, from the reference's contract. -/
import Derived.Test.YtfcidddpoofjgaaDoorDigEq
import Derived.Test.YtfcidddpoofjgaaDoorArgs
namespace Go.Proofs.YtfcidddpoofjgaaDoor
open Go.RowKit Bx Md

/-- What the reference's Of is to answer. -/
def RofSpec : Prop := ∀ (v : Value) (B : List Nat) (w : World), Sl w v (u8s B) → (∀ b ∈ B, b < 256) → B.length < 1000000 → Calls Tryd.prog 11 #[v] w fun e w' => e = .returned (.agg (u8s (md B)).toArray) ∧ Kept Nix w w'

set_option maxHeartbeats 1000000 in
theorem walk_tells (R : RofSpec) (w : World) (hT : Tab w) (v : Value) (zs : List Int) (s : Sl w v (zs.map (Value.int .u8))) (hz : ∀ n ∈ zs, (Lit.int .u8 n).wf = true) :
    Calls Tryd.prog 3 #[v] w fun e w' => e = .returned (.bool true) ∧ Kept Nix w w' := by
  have HA := Lib.hid (awake_any w hT)
  have HT := Lib.hid hT
  have HR := Lib.hid R
  obtain ⟨B, hs, hB, -⟩ := s.nats hz
  clear s hz hT R
  obtain ⟨ao, cap, rfl⟩ := hs.shape
  have HS := Lib.hid hs
  have HB := Lib.hid hB
  clear hs hB
  by_cases hlen : 200 < (B.length : Int)
  · go_enter Tryd.func3, Tryd.ntmps3
    go_wp2_with fail
    refine HA.out.mono ?_
    rintro e w1 ⟨rfl, k1⟩
    go_wp2_with fail
    go_ret
    exact ⟨rfl, k1⟩
  · have hl2 : decide (200 < (B.length : Int)) = false := by simpa using hlen
    have HL : Hid (B.length ≤ 200) := Lib.hid (by omega)
    clear hlen
    go_enter Tryd.func3, Tryd.ntmps3
    go_wp2_with fail
    refine HA.out.mono ?_
    rintro e w1 ⟨rfl, k1⟩
    have O1 := Lib.hid (of_any _ B w1 (HS.out.nix k1) HB.out (HT.out.nix k1) (by have := HL.out; omega))
    have heq := eq_md B
    have RR : Hid (∀ wx, Kept Nix w wx → Calls Tryd.prog 11 #[.slice ao B.length cap] wx fun e w' => e = .returned (.agg (u8s (md B)).toArray) ∧ Kept Nix wx w') := Lib.hid (fun wx kx => HR.out _ B wx (HS.out.nix kx) HB.out (by have := HL.out; omega))
    generalize (u8s (md B)).toArray = M at *
    go_wp2_with fail
    refine O1.out.mono ?_
    rintro e w2 ⟨rfl, k2⟩
    go_wp2_with fail
    refine (RR.out w2 (nix_trans k1 k2)).mono ?_
    rintro e w3 ⟨rfl, k3⟩
    go_wp2_with fail
    go_ret
    exact ⟨rfl, nix_trans (nix_trans k1 k2) k3⟩

end Go.Proofs.YtfcidddpoofjgaaDoor
