/- The chapter's example, as the statements of layer 4 ask it first. -/
import Derived.Test.YtiibnmejoccfkaaEight
import Derived.Lib.SlBytesConst
import Derived.OpenShut
namespace Go.Proofs.Ytiibnmejoccfkaa
open Go.RowKit Bx Crc

theorem nat_u8 {a : Int} (h : (Lit.int .u8 a).wf = true) : ∃ n : Nat, a = (n : Int) ∧ n < 256 := by
  have := bounds_u8 h
  exact ⟨a.toNat, by omega, by omega⟩

theorem nat_u16 {a : Int} (h : (Lit.int .u16 a).wf = true) : ∃ n : Nat, a = (n : Int) ∧ n < 65536 := by
  have := bounds_u16 h
  exact ⟨a.toNat, by omega, by omega⟩

theorem c8_a : c8 [49, 50, 51, 52, 53, 54, 55, 56, 57] = 244 := by decide +kernel
theorem c16_a : c16 [49, 50, 51, 52, 53, 54, 55, 56, 57] = 65256 := by decide +kernel

/-- Bytes that a text's constant lays. -/
theorem sl_const (w : World) (B : List Nat) (e : TypeId) (fr : Nat × Nat) (n : Nat) (hn : B.length = n) (hm : n ≤ maxLen) : Sl (w.alloc (.cells (u8s B).toArray e fr)) (.slice (some ⟨w.heap.size, 0, none⟩) n n) (u8s B) := by
  subst hn
  refine ⟨_, B.length, by rw [u8s_length], by rw [u8s_length]; exact Nat.le_refl _, hm, fun h => by simp at h, fun _ => ⟨w.heap.size, 0, rfl, by simp, fun j u hu => ?_⟩⟩
  rw [Nat.zero_add, World.cell?_alloc_mark, List.getElem?_toArray]
  exact hu

set_option maxHeartbeats 400000 in
theorem awake_any (w : World) : Calls Try.prog 9 #[] w fun e w' => e = .returned (.bool true) ∧ Kept Nix w w' := by
  have hcv := Lib.run_convert_bytes_const w 22 5 #[.int .u8 49, .int .u8 50, .int .u8 51, .int .u8 52, .int .u8 53, .int .u8 54, .int .u8 55, .int .u8 56, .int .u8 57] 9 9 Try.underlying22 Try.underlying5
  have s1 := sl_const w [49, 50, 51, 52, 53, 54, 55, 56, 57] 5 (9, 10) 9 rfl (by simp [maxLen])
  have E1 := eight_any _ _ _ s1 (by decide)
  rw [c8_a] at E1
  have E1 := Lib.hid E1
  have S1 := Lib.hid s1
  clear s1
  go_enter Try.func9, Try.ntmps9
  go_wp2_with fail
  refine E1.out.mono ?_
  rintro e w1 ⟨rfl, k1⟩
  have E2 := sixteen_any _ _ _ (S1.out.nix k1) (by decide)
  rw [c16_a] at E2
  have E2 := Lib.hid E2
  go_wp2_with fail
  refine E2.out.mono ?_
  rintro e w2 ⟨rfl, k2⟩
  have E3 := Lib.hid (build_any w2)
  go_wp2_with fail
  refine E3.out.mono ?_
  rintro e w3 ⟨rfl, _, k3⟩
  go_wp2_with fail
  go_ret
  exact ⟨rfl, nix_trans ((Kept.refl _ w).alloc _) (nix_trans (nix_trans k1 k2) k3)⟩

end Go.Proofs.Ytiibnmejoccfkaa
