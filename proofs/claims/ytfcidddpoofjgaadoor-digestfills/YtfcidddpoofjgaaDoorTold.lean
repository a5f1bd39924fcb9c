/- The contract of digest.told. -/
import Derived.Test.YtfcidddpoofjgaaDoorMdLeaf
import Derived.Test.YtfcidddpoofjgaaDoorAgg
namespace Go.Proofs.YtfcidddpoofjgaaDoor
open Go.RowKit Bx Md

def ws (q : Quad) : List Nat := [q.a, q.b, q.c, q.d]
theorem ws_lt {q : Quad} (h : q.fits) (i : Nat) : (ws q).getD i 0 < 4294967296 := by
  obtain ⟨h1, h2, h3, h4⟩ := h
  match i with
  | 0 => exact h1
  | 1 => exact h2
  | 2 => exact h3
  | 3 => exact h4
  | _ + 4 => simp [ws]

theorem tell_length (q : Quad) : (tell q).length = 16 := rfl
theorem tell_get (q : Quad) (i : Nat) (hi : i < 16) : (tell q).getD i 0 = (ws q).getD (i / 4) 0 / 2 ^ (i % 4 * 8) % 256 := by
  match i, hi with
  | 0, _ | 1, _ | 2, _ | 3, _ | 4, _ | 5, _ | 6, _ | 7, _ | 8, _ | 9, _ | 10, _ | 11, _ | 12, _ | 13, _ | 14, _ | 15, _ => simp [tell, ws, les, Nat.div_div_eq_div_mul]
  | k + 16, h => exact absurd h (by omega)

/-- The first i bytes of a row, zeros behind them. -/
def half (B : List Nat) (n i : Nat) : List Nat := B.take i ++ List.replicate (n - i) 0
theorem half_length (B : List Nat) (n i : Nat) (h : B.length = n) (hi : i ≤ n) : (half B n i).length = n := by simp [half]; omega
theorem half_step (B : List Nat) (n i : Nat) (h : B.length = n) (hi : i < n) : (half B n i).set i (B.getD i 0) = half B n (i + 1) := by
  unfold half
  rw [List.set_append, if_neg (by simp; omega), show i - (B.take i).length = 0 by simp; omega, show n - i = (n - (i + 1)) + 1 by omega, List.replicate_succ, List.set_cons_zero, List.take_succ_eq_append_getElem (by omega)]
  simp only [List.append_assoc, List.getD_eq_getElem?_getD, List.getElem?_eq_getElem (show i < B.length by omega), Option.getD_some, List.singleton_append]
theorem half_all (B : List Nat) (n : Nat) (h : B.length = n) : half B n n = B := by simp [half, ← h]

def ToldInv (q : Quad) (w : World) (a : Act) (w' : World) : Prop :=
  a.defers = [] ∧ a.tmps.size = 21 ∧ a.tmps[1]? = some (.pointer (some ⟨w.heap.size, 0, none⟩)) ∧ a.tmps[2]? = some (.pointer (some ⟨w.heap.size + 1, 0, none⟩)) ∧ a.tmps[3]? = some (.pointer (some ⟨w.heap.size + 2, 0, none⟩)) ∧
    Kept Nix w w' ∧ w'.heap[w.heap.size]? = some (.cells (u32s (ws q)).toArray 46 (0, 0)) ∧ w'.heap[w.heap.size + 1]? = some (.cells (u8s (List.replicate 16 0)).toArray 24 (0, 0)) ∧
    ∃ i, i ≤ 16 ∧ a.tmps[5]? = some (.int .i64 ((i : Nat) : Int)) ∧ w'.heap[w.heap.size + 2]? = some (.cells (u8s (half (tell q) 16 i)).toArray 24 (0, 0))

theorem size_sum : (Tryd.prog.info? 24).map (·.size) = some 16 := by kernel_rfl

set_option maxHeartbeats 400000 in
theorem told_any (q : Quad) (w : World) (hq : q.fits) :
    Calls Tryd.prog 24 #[.agg (u32s (ws q)).toArray] w fun e w' => e = .returned (.agg (u8s (tell q)).toArray) ∧ Kept Nix w w' := by
  have HQ := Lib.hid hq
  clear hq
  have e0 : (u32s (ws q)).toArray = #[.int .u32 (q.a : Int), .int .u32 (q.b : Int), .int .u32 (q.c : Int), .int .u32 (q.d : Int)] := rfl
  rw [e0]
  go_enter Tryd.func24, Tryd.ntmps24
  go_wp2
  refine wp_loop (ToldInv q w) (fun a _ => 16 - (intOf (a.tmps.getD 5 undef)).toNat) ?_ ?_
  · refine ⟨rfl, rfl, rfl, rfl, rfl, (((Kept.refl _ w).alloc _).alloc _).alloc _, ?_, ?_, 0, Nat.zero_le _, rfl, ?_⟩
    · rw [Below.heap_alloc _ _ _ (by simp; omega), Below.heap_alloc _ _ _ (by simp), heap_alloc_new]; rfl
    · rw [Below.heap_alloc _ _ _ (by simp)]; exact heap_new (by simp)
    · exact heap_new (by simp)
  · rintro ⟨tm, df⟩ w1 ⟨rfl, hs, h1, h2, h3, k1, b1, b2, i, hi, h5, b3⟩
    simp only at hs h1 h2 h3 h5
    obtain ⟨f, hf, hg⟩ := fr_open hs
    have e1 := hg _ _ h1
    have e2 := hg _ _ h2
    have e3 := hg _ _ h3
    have e5 := hg _ _ h5
    simp only [List.range, List.range.loop, List.map] at hf
    rw [e1, e2, e3, e5] at hf
    clear e1 e2 e3 e5 hg hs h1 h2 h3 h5
    subst hf
    by_cases hlt : i < 16
    · have hj : (i : Int) / 4 = ((i / 4 : Nat) : Int) := by omega
      have hk : (i : Int) % 4 * 8 = ((i % 4 * 8 : Nat) : Int) := by omega
      have hj4 : i / 4 < 4 := by omega
      have hk32 : i % 4 * 8 < 32 := by omega
      have hc1 : w1.cell? ⟨w.heap.size, i / 4, none⟩ = some (.int .u32 (((ws q).getD (i / 4) 0 : Nat) : Int)) := by rw [cell_of b1, List.getElem?_toArray]; exact u32s_get _ _ hj4
      have hl : i < (u8s (half (tell q) 16 i)).length := by rw [u8s_length, half_length _ _ _ (tell_length q) hi]; exact hlt
      have hc3 : w1.cell? ⟨w.heap.size + 2, i, none⟩ = some (u8s (half (tell q) 16 i))[i] := by rw [cell_of b3, List.getElem?_toArray]; exact List.getElem?_eq_getElem hl
      have hz : w1.frozen? ⟨w.heap.size + 2, i, none⟩ = false := frozen_of b3
      have HV := Lib.hid (tell_get q i hlt)
      have HW := Lib.hid (ws_lt HQ.out (i / 4))
      have B1 := Lib.hid b1
      have B2 := Lib.hid b2
      have B3 := Lib.hid b3
      have hi16 : (i : Int) < 16 := by omega
      have HI := Lib.hid hlt
      clear b1 b2 b3 hi
      generalize (ws q).getD (i / 4) 0 = x at *
      generalize i / 4 = j at *
      generalize i % 4 * 8 = k at *
      have hj4' : (j : Int) < 4 := by omega
      have hk' : (k : Int) < 32 := by omega
      generalize (u8s (half (tell q) 16 i))[i] = old at *
      clear hlt hl
      go_wp2
      have ev : (x : Int) / 2 ^ k % 256 = (((tell q).getD i 0 : Nat) : Int) := by rw [HV.out, Int.natCast_emod, Int.natCast_ediv, Int.natCast_pow]; rfl
      rw [ev]
      refine ⟨⟨rfl, rfl, rfl, rfl, rfl, k1.setCell (.inr (by simp)) _, ?_, ?_, i + 1, HI.out, rfl, ?_⟩, ?_⟩
      · rw [heap_set_other (by simp)]; exact B1.out
      · rw [heap_set_other (by simp)]; exact B2.out
      · rw [heap_set B3.out, List.setIfInBounds_toArray, u8s_set, half_step _ _ _ (tell_length q) HI.out]
      · simp [intOf]; omega
    · have e : i = 16 := by omega
      subst e
      rw [half_all _ _ (by rfl)] at b3
      have zt : (u8s (tell q)).toArray.size = 16 := rfl
      generalize hcs : (u8s (tell q)).toArray = cs at *
      have zs := Lib.hid (size_sum.trans (congrArg some zt.symm))
      have H1 : Hid (cs.all (·.oneCell') = true) := Lib.hid (by rw [← hcs]; exact all_one (u8s_one _))
      have B2 := Lib.hid b2
      have B3 := Lib.hid b3
      have ZT := Lib.hid zt
      have HC := Lib.hid hcs
      clear b1 b2 b3 zt hcs
      go_wp2_with (first | (refine wpList_load_row rfl 24 _ rfl _ rfl 24 cs _ _ B3.out Tryd.underlying24 rfl zs.out ?_) | (refine wpList_store_row rfl 24 _ _ rfl _ _ rfl rfl 24 _ B2.out zs.out (by rw [ZT.out]; rfl) H1.out ?_))
      refine ret_row (by rfl) (w.heap.size + 1) 24 cs (0, 0) _ rfl (heap_row cs B2.out) Tryd.underlying24 rfl zs.out rfl ⟨by rw [HC.out], k1.setRow (.inr (by omega)) _⟩

end Go.Proofs.YtfcidddpoofjgaaDoor
