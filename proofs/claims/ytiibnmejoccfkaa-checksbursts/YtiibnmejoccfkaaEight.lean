/- Contracts of checks.Eight and checks.Sixteen. -/
import Derived.Test.YtiibnmejoccfkaaBuild
namespace Go.Proofs.Ytiibnmejoccfkaa
open Go.RowKit Bx Crc

/-- The checks of bytes. -/
def c8 (B : List Nat) : Nat := crc 8 7 0 (bitsOf B)
def c16 (B : List Nat) : Nat := crc 16 32773 0 (bitsOf B)

theorem c8_lt (B : List Nat) : c8 B < 256 := crc_lt (W := 8) (by decide) _ _ (by decide)
theorem c16_lt (B : List Nat) : c16 B < 65536 := crc_lt (W := 16) (by decide) _ _ (by decide)

set_option maxHeartbeats 400000 in
theorem eight_any (v : Value) (B : List Nat) (w : World) (hs : Sl w v (u8s B)) (hB : ∀ b ∈ B, b < 256) :
    Calls Try.prog 15 #[v] w fun e w' => e = .returned (.int .u8 ((c8 B : Nat) : Int)) ∧ Kept Nix w w' := by
  have HB := Lib.hid (build_any w)
  have HS := Lib.hid hs
  obtain ⟨ao, cap, rfl⟩ := hs.shape
  clear hs
  go_enter Try.func15, Try.ntmps15
  go_wp2_with fail
  refine HB.out.mono ?_
  rintro e w1 ⟨rfl, t1, k1⟩
  have HE := Lib.hid (teight_any _ 0 _ B w1 t1 (by decide) (HS.out.nix k1) hB)
  clear t1
  go_wp2_with fail
  refine HE.out.mono ?_
  rintro e w2 ⟨rfl, rfl⟩
  go_wp2_with fail
  go_ret
  exact ⟨rfl, k1⟩

set_option maxHeartbeats 400000 in
theorem sixteen_any (v : Value) (B : List Nat) (w : World) (hs : Sl w v (u8s B)) (hB : ∀ b ∈ B, b < 256) :
    Calls Try.prog 16 #[v] w fun e w' => e = .returned (.int .u16 ((c16 B : Nat) : Int)) ∧ Kept Nix w w' := by
  have HB := Lib.hid (build_any w)
  have HS := Lib.hid hs
  obtain ⟨ao, cap, rfl⟩ := hs.shape
  clear hs
  go_enter Try.func16, Try.ntmps16
  go_wp2_with fail
  refine HB.out.mono ?_
  rintro e w1 ⟨rfl, t1, k1⟩
  have HE := Lib.hid (tsixteen_any _ 0 _ B w1 t1 (by decide) (HS.out.nix k1) hB)
  clear t1
  go_wp2_with fail
  refine HE.out.mono ?_
  rintro e w2 ⟨rfl, rfl⟩
  go_wp2_with fail
  go_ret
  exact ⟨rfl, k1⟩

end Go.Proofs.Ytiibnmejoccfkaa
