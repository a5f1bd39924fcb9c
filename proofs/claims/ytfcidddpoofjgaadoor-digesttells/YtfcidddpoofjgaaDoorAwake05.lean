/- The chapter's examples: the contract of awake. -/
import Derived.Test.YtfcidddpoofjgaaDoorSum
import Derived.Lib.SlBytesConst
namespace Go.Proofs.YtfcidddpoofjgaaDoor
open Go.RowKit Bx Md

theorem md_at {L E : List Nat} (h : (md L).take 4 = E) (j : Nat) (hj : j < 4) : (md L).getD j 0 = E.getD j 0 := by
  rw [← h]
  simp [hj]

set_option maxHeartbeats 1000000 in
theorem awake_any (w : World) (hT : Tab w) : Calls Tryd.prog 9 #[] w fun e w' => e = .returned (.bool true) ∧ Kept Nix w w' := by
  have HT := Lib.hid hT
  have H1 := Lib.hid (of_any (.slice none 0 0) [] w (sl_nil w) (by simp) hT (by decide))
  have zt : ∀ L, (u8s (md L)).toArray.size = 16 := fun L => by simp [u8s, md_length]
  have ZS := Lib.hid (fun L => size_sum.trans (congrArg some (zt L).symm))
  have ZT := Lib.hid zt
  have Z1 : Hid (∀ L, (u8s (md L)).toArray.all (·.oneCell') = true) := Lib.hid (fun L => all_one (u8s_one _))
  clear hT zt
  go_enter Tryd.func9, Tryd.ntmps9
  go_wp2_with fail
  refine H1.out.mono ?_
  rintro e w1 ⟨rfl, k1⟩
  have K1 := Lib.hid k1
  clear k1 H1
  go_upto_region 2 with (first | (refine wpList_store_row rfl 24 _ _ rfl _ _ rfl rfl 24 _ (heap_alloc_new w1 _) (ZS.out _) (by rw [ZT.out]; rfl) (Z1.out _) ?_))
  have h2 : ((w1.alloc (.cells #[.int .u8 0, .int .u8 0, .int .u8 0, .int .u8 0, .int .u8 0, .int .u8 0, .int .u8 0, .int .u8 0, .int .u8 0, .int .u8 0, .int .u8 0, .int .u8 0, .int .u8 0, .int .u8 0, .int .u8 0, .int .u8 0] 24)).setRow w1.heap.size (u8s (md [])).toArray).heap[w1.heap.size]? = some (.cells (u8s (md [])).toArray 24 (0, 0)) := heap_row _ (heap_alloc_new w1 _)
  have k2 : Kept Nix w1 ((w1.alloc (.cells #[.int .u8 0, .int .u8 0, .int .u8 0, .int .u8 0, .int .u8 0, .int .u8 0, .int .u8 0, .int .u8 0, .int .u8 0, .int .u8 0, .int .u8 0, .int .u8 0, .int .u8 0, .int .u8 0, .int .u8 0, .int .u8 0] 24)).setRow w1.heap.size (u8s (md [])).toArray) := ((Kept.refl Nix w1).alloc _).setRow (.inr (Nat.le_refl _)) _
  generalize (w1.alloc (.cells #[.int .u8 0, .int .u8 0, .int .u8 0, .int .u8 0, .int .u8 0, .int .u8 0, .int .u8 0, .int .u8 0, .int .u8 0, .int .u8 0, .int .u8 0, .int .u8 0, .int .u8 0, .int .u8 0, .int .u8 0, .int .u8 0] 24)).setRow w1.heap.size (u8s (md [])).toArray = w2 at *
  have K2 := Lib.hid (nix_trans K1.out k2)
  have k3 : Kept Nix w2 (w2.alloc (.cells #[.int .u8 97, .int .u8 98, .int .u8 99] 5 (3, 4))) := (Kept.refl _ _).alloc _
  have sl3 : Sl (w2.alloc (.cells #[.int .u8 97, .int .u8 98, .int .u8 99] 5 (3, 4))) (.slice (some ⟨w2.heap.size, 0, none⟩) 3 3) (u8s [97, 98, 99]) := sl_const w2 [97, 98, 99] 5 (3, 4) 3 rfl (by decide)
  have H3 := Lib.hid (of_any _ [97, 98, 99] (w2.alloc (.cells #[.int .u8 97, .int .u8 98, .int .u8 99] 5 (3, 4))) sl3 (by decide) (HT.out.nix (nix_trans K2.out k3)) (by decide))
  have K3 := Lib.hid (nix_trans K2.out k3)
  have H22 := Lib.hid (k3.heap h2 (fun h => h))
  have hcv := Lib.run_convert_bytes_const w2 22 5 #[.int .u8 97, .int .u8 98, .int .u8 99] 3 3 Tryd.underlying22 Tryd.underlying5
  clear h2 k2 k3 sl3
  go_wp2_with fail
  refine H3.out.mono ?_
  rintro e w4 ⟨rfl, k4⟩
  have H24 := Lib.hid (k4.heap H22.out (fun h => h))
  have K4 := Lib.hid (nix_trans K3.out k4)
  clear k4 H3 hcv
  go_upto_region 3 with (first | (refine wpList_store_row rfl 24 _ _ rfl _ _ rfl rfl 24 _ (heap_alloc_new w4 _) (ZS.out _) (by rw [ZT.out]; rfl) (Z1.out _) ?_))
  have h5 : ((w4.alloc (.cells #[.int .u8 0, .int .u8 0, .int .u8 0, .int .u8 0, .int .u8 0, .int .u8 0, .int .u8 0, .int .u8 0, .int .u8 0, .int .u8 0, .int .u8 0, .int .u8 0, .int .u8 0, .int .u8 0, .int .u8 0, .int .u8 0] 24)).setRow w4.heap.size (u8s (md [97, 98, 99])).toArray).heap[w4.heap.size]? = some (.cells (u8s (md [97, 98, 99])).toArray 24 (0, 0)) := heap_row _ (heap_alloc_new w4 _)
  have k5 : Kept Nix w4 ((w4.alloc (.cells #[.int .u8 0, .int .u8 0, .int .u8 0, .int .u8 0, .int .u8 0, .int .u8 0, .int .u8 0, .int .u8 0, .int .u8 0, .int .u8 0, .int .u8 0, .int .u8 0, .int .u8 0, .int .u8 0, .int .u8 0, .int .u8 0] 24)).setRow w4.heap.size (u8s (md [97, 98, 99])).toArray) := ((Kept.refl Nix w4).alloc _).setRow (.inr (Nat.le_refl _)) _
  generalize (w4.alloc (.cells #[.int .u8 0, .int .u8 0, .int .u8 0, .int .u8 0, .int .u8 0, .int .u8 0, .int .u8 0, .int .u8 0, .int .u8 0, .int .u8 0, .int .u8 0, .int .u8 0, .int .u8 0, .int .u8 0, .int .u8 0, .int .u8 0] 24)).setRow w4.heap.size (u8s (md [97, 98, 99])).toArray = w5 at *
  have h25 := k5.heap H24.out (fun h => h)
  have K5 := Lib.hid (nix_trans K4.out k5)
  have a0 : w5.cell? ⟨w1.heap.size, 0, none⟩ = some (.int .u8 212) := by rw [cell_of h25, List.getElem?_toArray, u8s_get _ _ (by rw [md_length]; decide), md_at md_nil 0 (by decide)]; rfl
  have a1 : w5.cell? ⟨w1.heap.size, 1, none⟩ = some (.int .u8 29) := by rw [cell_of h25, List.getElem?_toArray, u8s_get _ _ (by rw [md_length]; decide), md_at md_nil 1 (by decide)]; rfl
  have a2 : w5.cell? ⟨w1.heap.size, 2, none⟩ = some (.int .u8 140) := by rw [cell_of h25, List.getElem?_toArray, u8s_get _ _ (by rw [md_length]; decide), md_at md_nil 2 (by decide)]; rfl
  have a3 : w5.cell? ⟨w1.heap.size, 3, none⟩ = some (.int .u8 217) := by rw [cell_of h25, List.getElem?_toArray, u8s_get _ _ (by rw [md_length]; decide), md_at md_nil 3 (by decide)]; rfl
  have b0 : w5.cell? ⟨w4.heap.size, 0, none⟩ = some (.int .u8 144) := by rw [cell_of h5, List.getElem?_toArray, u8s_get _ _ (by rw [md_length]; decide), md_at md_abc 0 (by decide)]; rfl
  have b1 : w5.cell? ⟨w4.heap.size, 1, none⟩ = some (.int .u8 1) := by rw [cell_of h5, List.getElem?_toArray, u8s_get _ _ (by rw [md_length]; decide), md_at md_abc 1 (by decide)]; rfl
  have b2 : w5.cell? ⟨w4.heap.size, 2, none⟩ = some (.int .u8 80) := by rw [cell_of h5, List.getElem?_toArray, u8s_get _ _ (by rw [md_length]; decide), md_at md_abc 2 (by decide)]; rfl
  have b3 : w5.cell? ⟨w4.heap.size, 3, none⟩ = some (.int .u8 152) := by rw [cell_of h5, List.getElem?_toArray, u8s_get _ _ (by rw [md_length]; decide), md_at md_abc 3 (by decide)]; rfl
  clear h5 h25 k5
  go_wp2
  go_ret
  exact ⟨rfl, K5.out⟩

end Go.Proofs.YtfcidddpoofjgaaDoor
