/- The contract of digest.filling. -/
import Derived.Test.YtfcidddpoofjgaaDoorSt
import Derived.Test.YtfcidddpoofjgaaDoorCut
namespace Go.Proofs.YtfcidddpoofjgaaDoor
open Go.RowKit Bx Md

theorem made_u8' (n : Nat) : madeCells #[Value.int .u8 0] n = (u8s (List.replicate n 0)).toArray := by
  apply Array.ext
  · simp [size_madeCells, u8s]
  · intro i h1 h2
    simp [madeCells, u8s, Nat.mod_one]

theorem make_room (w : World) (l c : Nat) (h : l ≤ c) (hc : c < 1000000) : (Instr.makeSlice 22 (.int .i64 (l : Int)) (.int .i64 (c : Int))).run Tryd.prog w = .ok (.slice (some ⟨w.heap.size, 0, none⟩) l c) (w.alloc (.cells (u8s (List.replicate c 0)).toArray 5)) := by
  obtain ⟨i, hi, hz, hsize, hby⟩ := info_parts info_u8
  have hr := run_make (P := Tryd.prog) w 22 5 i (.int .u8 0) Tryd.underlying22 hi hz .i64 .i64 (l : Int) (c : Int) (by omega) (by omega) (by rw [hby]; omega) (by omega)
  rw [hr, ← made_u8', hsize]
  simp [Value.cells]

def fillT (n j : Nat) : List Nat := 128 :: (List.replicate (zer n) 0 ++ les j (8 * n))
theorem fillT_length (n j : Nat) : (fillT n j).length = 1 + zer n + j := by simp [fillT, les_length]; omega
theorem fillT_step (n j : Nat) : fillT n j ++ [8 * n / 256 ^ j % 256] = fillT n (j + 1) := by simp [fillT, les_succ]

def FillInv (n : Nat) (w : World) (a : Act) (w' : World) : Prop :=
  a.defers = [] ∧ a.tmps.size = 32 ∧ Kept Nix w w' ∧ ∃ j v, j ≤ 8 ∧ a.tmps[21]? = some (.int .i64 ((j : Nat) : Int)) ∧ a.tmps[5]? = some (.int .u64 ((8 * n / 256 ^ j : Nat) : Int)) ∧ a.tmps[4]? = some v ∧
    w'.ownsRow w.heap.size 5 1 v (1 + zer n + j) (u8s (fillT n j))

def FillPost (n : Nat) (w : World) (e : Ending) (w' : World) : Prop :=
  ∃ v, e = .returned v ∧ w'.ownsRow w.heap.size 5 1 v (fil n).length (u8s (fil n)) ∧ Kept Nix w w'

theorem fill_own (w2 : World) (B z : Nat) (hh : w2.heap[B]? = some (.cells ((u8s (List.replicate (1 + z + 8) 0)).toArray.setIfInBounds 0 (.int .u8 128)) 5 (0, 0))) (hz : z < 64) :
    w2.ownsRow B 5 1 (.slice (some ⟨B, 0, none⟩) (1 + z) (1 + z + 8)) (1 + z) (u8s (128 :: List.replicate z 0)) := by
  refine ⟨by simp [u8s]; omega, .inr ⟨B, 1 + z + 8, _, rfl, Nat.le_refl _, hh, by omega, by unfold maxLen; omega, by simp [u8s], ?_⟩⟩
  rw [show 1 + z + 8 = (z + 8) + 1 by omega, show 1 + z = z + 1 by omega]
  have h : ∀ k, z ≤ k → ((u8s (List.replicate (k + 1) 0)).toArray.setIfInBounds 0 (.int .u8 128)).toList.take ((z + 1) * 1) = u8s (128 :: List.replicate z 0) := by
    intro k hk
    rw [List.replicate_succ]
    simp [u8s, List.take_replicate, Nat.min_eq_left hk]
  exact h (z + 8) (by omega)

set_option maxHeartbeats 1000000 in
theorem filling_any (n : Nat) (w : World) (hn : n < 1099511627776) : Calls Tryd.prog 23 #[.int .i64 (n : Int)] w (FillPost n w) := by
  have hz : zer n < 64 := Nat.mod_lt _ (by decide)
  have e1 : (119 - (n : Int) % 64) % 64 = ((zer n : Nat) : Int) := by unfold zer; omega
  have e2 : (1 : Int) + ((zer n : Nat) : Int) = ((1 + zer n : Nat) : Int) := by omega
  have e3 : ((1 + zer n : Nat) : Int) + 8 = ((1 + zer n + 8 : Nat) : Int) := by omega
  have hmk := make_room w (1 + zer n) (1 + zer n + 8) (by omega) (by omega)
  have h8 : (8 : Int) * (n : Int) = ((8 * n : Nat) : Int) := by omega
  have h8w : ((8 * n : Nat) : Int) % 18446744073709551616 = ((8 * n : Nat) : Int) := by omega
  have hnw : (n : Int) % 18446744073709551616 = (n : Int) := by omega
  have U1 := Lib.hid h8
  have U2 := Lib.hid h8w
  have U3 := Lib.hid hnw
  have H8 : Hid (8 * n < 8796093022208) := Lib.hid (by omega)
  have HN := Lib.hid hn
  clear hn h8 h8w hnw
  generalize hz' : zer n = z at *
  have HZ := Lib.hid hz'
  clear hz'
  have HO := Lib.hid (fun w2 hh => fill_own w2 w.heap.size z hh hz)
  have hl0 : (0 : Int) < ((1 + z : Nat) : Int) := by omega
  have hwl : wrap64 ((1 + z : Nat) : Int) = ((1 + z : Nat) : Int) := by unfold wrap64; omega
  have hwc : wrap64 ((1 + z + 8 : Nat) : Int) = ((1 + z + 8 : Nat) : Int) := by unfold wrap64; omega
  have hh1 : (w.alloc (.cells (u8s (List.replicate (1 + z + 8) 0)).toArray 5)).heap[w.heap.size]? = _ := heap_alloc_new w _
  have hcell : (w.alloc (.cells (u8s (List.replicate (1 + z + 8) 0)).toArray 5)).cell? ⟨w.heap.size, 0, none⟩ = some (.int .u8 0) := by rw [cell_of hh1]; simp [u8s]
  have hfz := frozen_of (i := 0) hh1
  have hk1 : Kept Nix w (w.alloc (.cells (u8s (List.replicate (1 + z + 8) 0)).toArray 5)) := (Kept.refl _ w).alloc _
  have HZ64 := Lib.hid hz
  clear hz
  generalize hm : 8 * n = m at *
  have HM := Lib.hid hm
  clear hm
  have HH1 := Lib.hid hh1
  clear hh1
  generalize hc : 1 + z + 8 = c at *
  generalize hl : 1 + z = l at *
  have HC := Lib.hid hc
  have HL := Lib.hid hl
  clear hc hl
  go_enter Tryd.func23, Tryd.ntmps23
  go_upto_region 2 with fail
  rw [e1]
  clear e1
  go_upto_region 3 with fail
  generalize w.alloc (.cells (u8s (List.replicate c 0)).toArray 5) = w1 at *
  clear hmk e2 e3 hwl hwc
  go_upto_region 4 with fail
  have ho := HO.out _ (heap_set HH1.out)
  have hk2 : Kept Nix w (w1.setCell ⟨w.heap.size, 0, none⟩ (.int .u8 128)) := hk1.setCell (.inr (Nat.le_refl _)) _
  have HO := Lib.hid ho
  clear ho hk1 hcell hfz hl0 HH1
  generalize w1.setCell ⟨w.heap.size, 0, none⟩ (.int .u8 128) = w2 at *
  have h8 := U1.out
  have h8w := U2.out
  have hnw := U3.out
  go_wp2_with fail
  refine wp_loop (FillInv n w) (fun a _ => 8 - (intOf (a.tmps.getD 21 undef)).toNat) ?_ ?_
  · refine ⟨rfl, rfl, hk2, 0, _, Nat.zero_le _, rfl, ?_, rfl, ?_⟩
    · rw [Nat.pow_zero, Nat.div_one, HM.out]; rfl
    · have e : fillT n 0 = 128 :: List.replicate z 0 := by simp [fillT, les, HZ.out]
      rw [e, HZ.out, Nat.add_zero, HL.out]
      exact HO.out
  · clear h8 h8w hnw HO hk2
    rintro ⟨tm, df⟩ wa ⟨rfl, hs, k1, j, v, hj, h21, h5, h4, ho⟩
    simp only at hs h21 h5 h4
    obtain ⟨f, hf, hg⟩ := fr_open hs
    have e4 := hg _ _ h4
    have e5 := hg _ _ h5
    have e21 := hg _ _ h21
    simp only [List.range, List.range.loop, List.map] at hf
    rw [e4, e5, e21] at hf
    clear e4 e5 e21 hg hs h4 h5 h21
    subst hf
    have HO := Lib.hid ho
    obtain ⟨ao, cap, rfl, -, -⟩ := owns_shape ho
    clear ho
    by_cases hlt : j < 8
    · have hj8 : (j : Int) < 8 := by omega
      have HJ := Lib.hid hlt
      have HSTEP := Lib.hid (fillT_step n j)
      have hq : 8 * n / 256 ^ (j + 1) = 8 * n / 256 ^ j / 256 := by rw [Nat.pow_succ, Nat.div_div_eq_div_mul]
      have HQ := Lib.hid hq
      have HB : Hid (8 * n / 256 ^ j < 8796093022208) := Lib.hid (Nat.lt_of_le_of_lt (Nat.div_le_self _ _) (by have := HN.out; omega))
      have HLEN : Hid (zer n < 64) := Lib.hid (by rw [HZ.out]; exact HZ64.out)
      clear hq hlt hj
      generalize 8 * n / 256 ^ j = lf at *
      have hx : (lf : Int) / 256 = ((lf / 256 : Nat) : Int) := by omega
      have hy : (lf : Int) % 256 = ((lf % 256 : Nat) : Int) := by omega
      have HR : Hid (lf % 256 < 256) := Lib.hid (Nat.mod_lt _ (by decide))
      generalize lf / 256 = lq at *
      generalize lf % 256 = lr at *
      go_upto_region 7 with fail
      go_wp2_with (at_builtin; refine wpList_app _ rfl (.tmp 23) (.tmp 26) 22 rfl w.heap.size 5 (.int .u8 0) 1 1 Tryd.underlying22 info_u8 rfl (by decide) _ (1 + zer n + j) _ rfl (HO.out.alloc _) _ 1 1 _ rfl (src_one wa _ _ rfl) ?_ ?_ ?_ ?_)
      · have h1 := HJ.out
        have h2 := HLEN.out
        unfold maxLen; omega
      · have h1 := HJ.out
        have h2 := HLEN.out
        omega
      · show w.heap.size ≤ (wa.alloc _).heap.size
        have := k1.size
        simp; omega
      · intro v2 w3 o3 g3 _
        have k3 : Kept Nix w w3 := (k1.alloc _).grown g3 (fun k hk => .inr (HO.out.lt k hk).1)
        have O3 := Lib.hid o3
        have K3 := Lib.hid k3
        clear o3 g3 k3
        obtain ⟨ao3, cap3, rfl, -, -⟩ := owns_shape O3.out
        go_wp2
        refine ⟨⟨rfl, rfl, K3.out, j + 1, _, HJ.out, rfl, ?_, rfl, ?_⟩, ?_⟩
        · rw [HQ.out]; rfl
        · have := O3.out
          rw [← HSTEP.out, u8s_append]
          exact this
        · have := HJ.out
          simp [intOf]; omega
    · have e : j = 8 := by omega
      subst e
      go_wp2
      go_ret
      have e : fillT n 8 = fil n := rfl
      have el : 1 + zer n + 8 = (fil n).length := by rw [fil_length]; omega
      exact ⟨_, rfl, by rw [← el, ← e]; exact HO.out, k1⟩

end Go.Proofs.YtfcidddpoofjgaaDoor
