/- Contracts of Sum and of digest.Of. -/
import Derived.Test.YtfcidddpoofjgaaDoorAdd
import Derived.Test.YtfcidddpoofjgaaDoorFilling
namespace Go.Proofs.YtfcidddpoofjgaaDoor
open Go.RowKit Bx Md

theorem size_state : (Tryd.prog.info? 49).map (·.size) = some 69 := by kernel_rfl
theorem zero_state : ∃ Z : Array Value, Z.size = 69 ∧ ∀ w, (zeroValue 49).run Tryd.prog w = .ok (.agg Z) w := by
  have h : ((Tryd.prog.info? 49).bind (·.zero)).map (fun v => match v with | .agg Z => decide (Z.size = 69) | _ => false) = some true := by kernel_rfl
  cases hi : Tryd.prog.info? 49 with
  | none => simp [hi] at h
  | some i =>
    cases hz : i.zero with
    | none => simp [hi, hz] at h
    | some v =>
      simp [hi, hz] at h
      cases v with
      | agg Z => exact ⟨Z, by simpa using h, fun w => by simp [zeroValue, typeInfo, hi, hz]⟩
      | _ => simp at h

set_option maxHeartbeats 1000000 in
theorem sum_any (p : Nat) (L : List Nat) (w : World) (hst : St w p L) (hT : Tab w) (hl : L.length < 549755813888) :
    Calls Tryd.prog 15 #[.pointer (some ⟨p, 0, none⟩)] w fun e w' => e = .returned (.agg (u8s (md L)).toArray) ∧ Kept Nix w w' := by
  obtain ⟨hL, R, hR1, hR2, hR3, hR4⟩ := hst
  obtain ⟨Z, hZ, hzero⟩ := zero_state
  have h0 : (w.alloc (.cells #[.int .u8 0, .int .u8 0, .int .u8 0, .int .u8 0, .int .u8 0, .int .u8 0, .int .u8 0, .int .u8 0, .int .u8 0, .int .u8 0, .int .u8 0, .int .u8 0, .int .u8 0, .int .u8 0, .int .u8 0, .int .u8 0] 24)).heap[w.heap.size]? = _ := heap_alloc_new w _
  have k0 : Kept Nix w (w.alloc (.cells #[.int .u8 0, .int .u8 0, .int .u8 0, .int .u8 0, .int .u8 0, .int .u8 0, .int .u8 0, .int .u8 0, .int .u8 0, .int .u8 0, .int .u8 0, .int .u8 0, .int .u8 0, .int .u8 0, .int .u8 0, .int .u8 0] 24)) := (Kept.refl _ w).alloc _
  have hsz : (w.alloc (.cells #[.int .u8 0, .int .u8 0, .int .u8 0, .int .u8 0, .int .u8 0, .int .u8 0, .int .u8 0, .int .u8 0, .int .u8 0, .int .u8 0, .int .u8 0, .int .u8 0, .int .u8 0, .int .u8 0, .int .u8 0, .int .u8 0] 24)).heap.size = w.heap.size + 1 := by simp
  have SZ : Hid ((Tryd.prog.info? 49).map (·.size) = some (stCells (dig L) R L.length).toArray.size) := Lib.hid (by rw [size_state, List.size_toArray, stCells_length _ _ _ hR1])
  have SZ2 : Hid (Z.size = (stCells (dig L) R L.length).toArray.size) := Lib.hid (by rw [hZ, List.size_toArray, stCells_length _ _ _ hR1])
  have S1 : Hid ((stCells (dig L) R L.length).toArray.all (·.oneCell') = true) := Lib.hid (by
    refine all_one ?_
    intro u hu
    simp only [stCells, List.mem_append, List.mem_singleton] at hu
    rcases hu with (hu | hu) | rfl
    · exact u32s_one _ u hu
    · exact u8s_one _ u hu
    · rfl)
  have HSt : Hid (∀ wx p', wx.heap[p']? = some (.cells (stCells (dig L) R L.length).toArray 49 (0, 0)) → St wx p' L) := Lib.hid (fun wx p' h => ⟨hL, R, hR1, hR2, hR3, h⟩)
  have hct : ∀ wx, Kept Nix w wx → wx.cell? ⟨p, 68, none⟩ = some (.int .i64 (L.length : Int)) := fun wx kx => by rw [cell_of (kx.heap hR4 (fun h => h))]; exact cell_count hR1
  have HCT := Lib.hid hct
  have HR4 := Lib.hid hR4
  have HL := Lib.hid hl
  have HT := Lib.hid hT
  clear hL hR1 hR2 hR3 hR4 hl hT hct hZ
  generalize (stCells (dig L) R L.length).toArray = cs at *
  go_enter Tryd.func15, Tryd.ntmps15
  go_upto_region 1 with fail
  generalize w.alloc (.cells #[.int .u8 0, .int .u8 0, .int .u8 0, .int .u8 0, .int .u8 0, .int .u8 0, .int .u8 0, .int .u8 0, .int .u8 0, .int .u8 0, .int .u8 0, .int .u8 0, .int .u8 0, .int .u8 0, .int .u8 0, .int .u8 0] 24) = w1 at *
  have hp1 : w1.heap[p]? = some (.cells cs 49 (0, 0)) := k0.heap HR4.out (fun h => h)
  have HP1 := Lib.hid hp1
  have H0 := Lib.hid h0
  have K0 := Lib.hid k0
  have HSZ := Lib.hid hsz
  clear hp1 h0 k0 hsz
  go_upto_region 2 with (first | (refine wpList_load_row rfl 49 _ rfl p rfl 49 cs (0, 0) _ HP1.out Tryd.underlying49 rfl SZ.out ?_) | (refine wpList_store_row rfl 49 _ _ rfl _ _ rfl rfl 49 _ (heap_alloc_new w1 _) SZ.out SZ2.out S1.out ?_))
  have hh2 : ((w1.alloc (.cells Z 49)).setRow w1.heap.size cs).heap[w1.heap.size]? = some (.cells cs 49 (0, 0)) := heap_row cs (heap_alloc_new w1 _)
  have k12 : Kept Nix w1 ((w1.alloc (.cells Z 49)).setRow w1.heap.size cs) := ((Kept.refl Nix w1).alloc _).setRow (.inr (Nat.le_refl _)) _
  have hs2 : w1.heap.size < ((w1.alloc (.cells Z 49)).setRow w1.heap.size cs).heap.size := lt_of_heap hh2
  generalize (w1.alloc (.cells Z 49)).setRow w1.heap.size cs = w2 at *
  have st2 : St w2 w1.heap.size L := HSt.out w2 _ hh2
  have k02 := nix_trans K0.out k12
  have h02 := k12.heap H0.out (fun h => h)
  have hc2 := HCT.out w2 k02
  have HF := Lib.hid (filling_any L.length w2 (by have := HL.out; omega))
  have ST2 := Lib.hid st2
  have K02 := Lib.hid k02
  have H02 := Lib.hid h02
  have HS2 := Lib.hid hs2
  clear st2 k02 h02 hh2 k12 hs2
  go_wp2_with fail
  refine HF.out.mono ?_
  rintro e w3 ⟨v, rfl, ho3, k3⟩
  have sl3 := sl_of_owns ho3
  have hvb : v.ownBlock ≠ some w1.heap.size := by
    intro e
    have h1 := (ho3.lt _ e).1
    have h2 := HS2.out
    omega
  have hA := Lib.hid (add_any w1.heap.size v L (fil L.length) w3 (ST2.out.nix k3) sl3 (fil_lt _) (fun _ => hvb) (by rw [HSZ.out]; omega) (HT.out.nix (nix_trans K02.out k3)) (by have := HL.out; have hz : zer L.length < 64 := Nat.mod_lt _ (by decide); rw [fil_length]; omega))
  have K3 := Lib.hid (nix_trans K02.out k3)
  have H03 := Lib.hid (k3.heap H02.out (fun h => h))
  obtain ⟨ao3, cap3, rfl, -, -⟩ := owns_shape ho3
  clear ho3 sl3 hvb k3 hc2
  go_wp2_with fail
  refine hA.out.mono ?_
  rintro e w4 ⟨rfl, st4, k4⟩
  obtain ⟨hL4, R4, hR41, hR42, hR43, hR44⟩ := st4
  have hc0 : w4.cell? ⟨w1.heap.size, 0, none⟩ = some (.int .u32 ((dig (L ++ fil L.length)).a : Int)) := by rw [cell_of hR44]; rfl
  have hc1 : w4.cell? ⟨w1.heap.size, 1, none⟩ = some (.int .u32 ((dig (L ++ fil L.length)).b : Int)) := by rw [cell_of hR44]; rfl
  have hc2 : w4.cell? ⟨w1.heap.size, 2, none⟩ = some (.int .u32 ((dig (L ++ fil L.length)).c : Int)) := by rw [cell_of hR44]; rfl
  have hc3 : w4.cell? ⟨w1.heap.size, 3, none⟩ = some (.int .u32 ((dig (L ++ fil L.length)).d : Int)) := by rw [cell_of hR44]; rfl
  have hTD : Calls Tryd.prog 24 #[.agg #[.int .u32 ((dig (L ++ fil L.length)).a : Int), .int .u32 ((dig (L ++ fil L.length)).b : Int), .int .u32 ((dig (L ++ fil L.length)).c : Int), .int .u32 ((dig (L ++ fil L.length)).d : Int)]] w4 fun e w' => e = .returned (.agg (u8s (md L)).toArray) ∧ Kept Nix w4 w' := told_any (dig (L ++ fil L.length)) w4 (dig_fits _)
  have HTD := Lib.hid hTD
  have K4 : Hid (Kept Nix w w4) := Lib.hid (nix_put K3.out k4 (by intro j hj; have : j = w1.heap.size := hj; rw [this, HSZ.out]; omega))
  have H04 := Lib.hid (k4.heap H03.out (by intro h; have h1 : w.heap.size = w1.heap.size := h; rw [HSZ.out] at h1; omega))
  have zt : (u8s (md L)).toArray.size = 16 := by simp [u8s, md_length]
  have ZS := Lib.hid (size_sum.trans (congrArg some zt.symm))
  have ZT := Lib.hid zt
  have Z1 : Hid ((u8s (md L)).toArray.all (·.oneCell') = true) := Lib.hid (all_one (u8s_one _))
  clear hL4 hR41 hR42 hR43 hR44 k4 hTD zt
  generalize hM : (u8s (md L)).toArray = M at *
  have HM := Lib.hid hM
  clear hM
  generalize dig (L ++ fil L.length) = q at *
  go_wp2_with fail
  refine HTD.out.mono ?_
  rintro e w5 ⟨rfl, k5⟩
  have H05 := Lib.hid (k5.heap H04.out (fun h => h))
  have K5 := Lib.hid (nix_trans K4.out k5)
  clear k5 hc0 hc1 hc2 hc3
  go_wp2_with (first | (refine wpList_store_row rfl 24 _ _ rfl _ _ rfl rfl 24 _ H05.out ZS.out (by rw [ZT.out]; rfl) Z1.out ?_))
  refine ret_row (by rfl) w.heap.size 24 M (0, 0) _ rfl (heap_row M H05.out) Tryd.underlying24 rfl ZS.out rfl ⟨by rw [HM.out], K5.out.setRow (.inr (Nat.le_refl _)) _⟩

set_option maxHeartbeats 1000000 in
theorem of_any (v : Value) (B : List Nat) (w : World) (hs : Sl w v (u8s B)) (hB : ∀ b ∈ B, b < 256) (hT : Tab w) (hl : B.length < 549755813888) :
    Calls Tryd.prog 10 #[v] w fun e w' => e = .returned (.agg (u8s (md B)).toArray) ∧ Kept Nix w w' := by
  have h0 : (w.alloc (.cells #[.int .u8 0, .int .u8 0, .int .u8 0, .int .u8 0, .int .u8 0, .int .u8 0, .int .u8 0, .int .u8 0, .int .u8 0, .int .u8 0, .int .u8 0, .int .u8 0, .int .u8 0, .int .u8 0, .int .u8 0, .int .u8 0] 24)).heap[w.heap.size]? = _ := heap_alloc_new w _
  have k0 : Kept Nix w (w.alloc (.cells #[.int .u8 0, .int .u8 0, .int .u8 0, .int .u8 0, .int .u8 0, .int .u8 0, .int .u8 0, .int .u8 0, .int .u8 0, .int .u8 0, .int .u8 0, .int .u8 0, .int .u8 0, .int .u8 0, .int .u8 0, .int .u8 0] 24)) := (Kept.refl _ w).alloc _
  have hsz : (w.alloc (.cells #[.int .u8 0, .int .u8 0, .int .u8 0, .int .u8 0, .int .u8 0, .int .u8 0, .int .u8 0, .int .u8 0, .int .u8 0, .int .u8 0, .int .u8 0, .int .u8 0, .int .u8 0, .int .u8 0, .int .u8 0, .int .u8 0] 24)).heap.size = w.heap.size + 1 := by simp
  have HS := Lib.hid hs
  have HB := Lib.hid hB
  have HT := Lib.hid hT
  have HL := Lib.hid hl
  obtain ⟨ao, cap, rfl⟩ := hs.shape
  clear hs hB hT hl
  go_enter Tryd.func10, Tryd.ntmps10
  go_upto_region 1 with fail
  generalize w.alloc (.cells #[.int .u8 0, .int .u8 0, .int .u8 0, .int .u8 0, .int .u8 0, .int .u8 0, .int .u8 0, .int .u8 0, .int .u8 0, .int .u8 0, .int .u8 0, .int .u8 0, .int .u8 0, .int .u8 0, .int .u8 0, .int .u8 0] 24) = w1 at *
  have H0 := Lib.hid h0
  have K0 := Lib.hid k0
  have HSZ := Lib.hid hsz
  have HN := Lib.hid (new_any w1)
  clear h0 k0 hsz
  go_wp2_with fail
  refine HN.out.mono ?_
  rintro e w2 ⟨rfl, st2, k2⟩
  have K2 := Lib.hid (nix_trans K0.out k2)
  have H2 := Lib.hid (k2.heap H0.out (fun h => h))
  have hA := Lib.hid (add_any w1.heap.size (.slice ao B.length cap) [] B w2 st2 (HS.out.nix K2.out) HB.out (HS.out.apart (by rw [HSZ.out]; omega)) (by rw [HSZ.out]; omega) (HT.out.nix K2.out) (by have := HL.out; simp; omega))
  clear st2 k2
  go_wp2_with fail
  refine hA.out.mono ?_
  rintro e w3 ⟨rfl, st3, k3⟩
  rw [List.nil_append] at st3
  have K3 : Hid (Kept Nix w w3) := Lib.hid (nix_put K2.out k3 (by intro j hj; have : j = w1.heap.size := hj; rw [this, HSZ.out]; omega))
  have H3 := Lib.hid (k3.heap H2.out (by intro h; have h1 : w.heap.size = w1.heap.size := h; rw [HSZ.out] at h1; omega))
  have hSM := Lib.hid (sum_any w1.heap.size B w3 st3 (HT.out.nix K3.out) HL.out)
  clear st3 k3
  have zt : (u8s (md B)).toArray.size = 16 := by simp [u8s, md_length]
  have ZS := Lib.hid (size_sum.trans (congrArg some zt.symm))
  have ZT := Lib.hid zt
  have Z1 : Hid ((u8s (md B)).toArray.all (·.oneCell') = true) := Lib.hid (all_one (u8s_one _))
  clear zt
  generalize hM : (u8s (md B)).toArray = M at *
  have HM := Lib.hid hM
  clear hM
  go_wp2_with fail
  refine hSM.out.mono ?_
  rintro e w4 ⟨rfl, k4⟩
  have H4 := Lib.hid (k4.heap H3.out (fun h => h))
  have K4 := Lib.hid (nix_trans K3.out k4)
  clear k4
  go_wp2_with (first | (refine wpList_store_row rfl 24 _ _ rfl _ _ rfl rfl 24 _ H4.out ZS.out (by rw [ZT.out]; rfl) Z1.out ?_))
  refine ret_row (by rfl) w.heap.size 24 M (0, 0) _ rfl (heap_row M H4.out) Tryd.underlying24 rfl ZS.out rfl ⟨by rw [HM.out], K4.out.setRow (.inr (Nat.le_refl _)) _⟩

end Go.Proofs.YtfcidddpoofjgaaDoor
