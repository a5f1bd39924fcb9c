/- The contract of digest.blockWords. -/
import Derived.Test.YtfcidddpoofjgaaDoorTold
import Derived.Deep.RegionHeld3
namespace Go.Proofs.YtfcidddpoofjgaaDoor
open Go.RowKit Bx Md

/-- The words of the first i bytes. -/
def part (B : List Nat) (i : Nat) : List Nat := (List.range 16).map (wrd (B.take i))

theorem part_length (B : List Nat) (i : Nat) : (part B i).length = 16 := by simp [part]
theorem part_zero (B : List Nat) : part B 0 = List.replicate 16 0 := by simp [part]; decide
theorem part_all (B : List Nat) (h : B.length = 64) : part B 64 = wrds B := by simp [part, wrds, List.take_of_length_le (by omega : B.length ≤ 64)]

theorem getD_take (B : List Nat) (i j : Nat) : (B.take i).getD j 0 = if j < i then B.getD j 0 else 0 := by
  simp only [List.getD_eq_getElem?_getD, List.getElem?_take]
  split <;> simp

theorem wrd_step' (B : List Nat) (j k : Nat) (hk : k < 4) (hB : ∀ b ∈ B, b < 256) : wrd (B.take (4 * j + k + 1)) j = wrd (B.take (4 * j + k)) j ||| B.getD (4 * j + k) 0 * 2 ^ (k * 8) := by
  have h0 := getD_lt hB (4 * j)
  have h1 := getD_lt hB (4 * j + 1)
  have h2 := getD_lt hB (4 * j + 2)
  have h3 := getD_lt hB (4 * j + 3)
  unfold wrd
  simp only [getD_take]
  rw [Nat.or_comm, or_add _ _ (k * 8) (Nat.mul_mod_left _ _)]
  · match k, hk with
    | 0, _ | 1, _ | 2, _ | 3, _ => simp (disch := omega) only [if_pos, if_neg, Nat.add_zero]; omega
  · match k, hk with
    | 0, _ | 1, _ | 2, _ | 3, _ => simp (disch := omega) only [if_pos, if_neg, Nat.add_zero]; omega

/-- A byte more, in its word. -/
theorem wrd_step (B : List Nat) (i : Nat) (hB : ∀ b ∈ B, b < 256) : wrd (B.take (i + 1)) (i / 4) = wrd (B.take i) (i / 4) ||| B.getD i 0 * 2 ^ (i % 4 * 8) := by
  have h := wrd_step' B (i / 4) (i % 4) (Nat.mod_lt _ (by decide)) hB
  rwa [show 4 * (i / 4) + i % 4 = i by omega] at h

theorem wrd_other (B : List Nat) (i j : Nat) (h : j ≠ i / 4) : wrd (B.take (i + 1)) j = wrd (B.take i) j := by
  unfold wrd
  simp only [getD_take]
  have h0 : (4 * j < i + 1) ↔ 4 * j < i := by omega
  have h1 : (4 * j + 1 < i + 1) ↔ 4 * j + 1 < i := by omega
  have h2 : (4 * j + 2 < i + 1) ↔ 4 * j + 2 < i := by omega
  have h3 : (4 * j + 3 < i + 1) ↔ 4 * j + 3 < i := by omega
  simp only [h0, h1, h2, h3]

theorem part_step (B : List Nat) (i : Nat) (hB : ∀ b ∈ B, b < 256) : (part B i).set (i / 4) (wrd (B.take i) (i / 4) ||| B.getD i 0 * 2 ^ (i % 4 * 8)) = part B (i + 1) := by
  apply List.ext_getElem
  · simp [part]
  · intro j h1 h2
    simp only [part, List.getElem_set, List.getElem_map, List.getElem_range]
    by_cases e : i / 4 = j
    · subst e; rw [if_pos rfl, wrd_step B i hB]
    · rw [if_neg e, wrd_other B i j (fun h => e h.symm)]

theorem size_u8' (w : World) : (sizeOf 5).run Tryd.prog w = .ok 1 w := by
  obtain ⟨i, hi, hz, hsize, hby⟩ := info_parts info_u8
  simp [sizeOf, typeInfo, hi, hsize]

theorem size_words : (Tryd.prog.info? 51).map (·.size) = some 16 := by kernel_rfl
theorem size_block : (Tryd.prog.info? 47).map (·.size) = some 64 := by kernel_rfl

def BlwInv (B : List Nat) (w : World) (a : Act) (w' : World) : Prop :=
  a.defers = [] ∧ a.tmps.size = 25 ∧ a.tmps[2]? = some (.pointer (some ⟨w.heap.size + 1, 0, none⟩)) ∧ a.tmps[3]? = some (.pointer (some ⟨w.heap.size + 2, 0, none⟩)) ∧ a.tmps[6]? = some (.agg (u8s B).toArray) ∧
    Kept Nix w w' ∧ w'.heap[w.heap.size + 1]? = some (.cells (u32s (List.replicate 16 0)).toArray 51 (0, 0)) ∧
    ∃ i, i ≤ 64 ∧ a.tmps[7]? = some (.int .i64 ((i : Nat) : Int)) ∧ w'.heap[w.heap.size + 2]? = some (.cells (u32s (part B i)).toArray 51 (0, 0))

set_option maxHeartbeats 400000 in
theorem blw_any (B : List Nat) (w : World) (hl : B.length = 64) (hB : ∀ b ∈ B, b < 256) :
    Calls Tryd.prog 22 #[.agg (u8s B).toArray] w fun e w' => e = .returned (.agg (u32s (wrds B)).toArray) ∧ Kept Nix w w' := by
  have HL := Lib.hid hl
  have HB := Lib.hid hB
  have SZ : Hid ((Tryd.prog.info? 47).map (·.size) = some (u8s B).toArray.size) := Lib.hid (by rw [size_block]; simp [u8s, hl])
  clear hl hB
  generalize hC : (u8s B).toArray = C at *
  have HC := Lib.hid hC
  clear hC
  go_enter Tryd.func22, Tryd.ntmps22
  go_wp2_with (first | (refine wpList_load_row rfl 47 _ rfl _ rfl 47 C (0, 0) _ (by first | exact heap_alloc_new _ _ | (rw [Below.heap_alloc _ _ _ (by simp; omega), Below.heap_alloc _ _ _ (by simp)]; exact heap_alloc_new _ _)) Tryd.underlying47 rfl SZ.out ?_))
  refine wp_loop (BlwInv B w) (fun a _ => 64 - (intOf (a.tmps.getD 7 undef)).toNat) ?_ ?_
  · refine ⟨rfl, rfl, rfl, rfl, by rw [HC.out]; rfl, (((Kept.refl _ w).alloc _).alloc _).alloc _, ?_, 0, Nat.zero_le _, rfl, ?_⟩
    · rw [Below.heap_alloc _ _ _ (by simp)]; exact heap_new (by simp)
    · rw [part_zero]; exact heap_new (by simp)
  · rintro ⟨tm, df⟩ w1 ⟨rfl, hs, h2, h3, h6, k1, b2, i, hi, h7, b3⟩
    simp only at hs h2 h3 h6 h7
    rw [HC.out] at h6
    obtain ⟨f, hf, hg⟩ := fr_open hs
    have e2 := hg _ _ h2
    have e3 := hg _ _ h3
    have e6 := hg _ _ h6
    have e7 := hg _ _ h7
    simp only [List.range, List.range.loop, List.map] at hf
    rw [e2, e3, e6, e7] at hf
    clear e2 e3 e6 e7 hg hs h2 h3 h6 h7
    subst hf
    by_cases hlt : i < 64
    · have hj : (i : Int) / 4 = ((i / 4 : Nat) : Int) := by omega
      have hk : (i : Int).tmod 4 * 8 = ((i % 4 * 8 : Nat) : Int) := by rw [Int.tmod_eq_emod_of_nonneg (by omega)]; omega
      have hj4 : i / 4 < 16 := by omega
      have hk32 : i % 4 * 8 < 32 := by omega
      have HK : Hid (i % 4 * 8 ≤ 24) := Lib.hid (by omega)
      have hx : (part B i).getD (i / 4) 0 = wrd (B.take i) (i / 4) := by simp [part, hj4]
      have hc3 : w1.cell? ⟨w.heap.size + 2, i / 4, none⟩ = some (.int .u32 ((wrd (B.take i) (i / 4) : Nat) : Int)) := by rw [cell_of b3, List.getElem?_toArray, u32s_get _ _ (by rw [part_length]; exact hj4), hx]
      have hz : w1.frozen? ⟨w.heap.size + 2, i / 4, none⟩ = false := frozen_of b3
      have hci : C[i]? = some (.int .u8 ((B.getD i 0 : Nat) : Int)) := by rw [← HC.out, List.getElem?_toArray]; exact u8s_get B i (by rw [HL.out]; exact hlt)
      have HV := Lib.hid (part_step B i HB.out)
      have HW := Lib.hid (wrd_lt (B := B.take i) (fun b hb => HB.out b (List.mem_of_mem_take hb)) (i / 4))
      have HY := Lib.hid (getD_lt HB.out i)
      have B2 := Lib.hid b2
      have B3 := Lib.hid b3
      have hi64 : (i : Int) < 64 := by omega
      have HI := Lib.hid hlt
      clear b2 b3 hi hx
      generalize wrd (B.take i) (i / 4) = x at *
      generalize B.getD i 0 = y at *
      generalize i / 4 = j at *
      generalize i % 4 * 8 = k at *
      have hj4' : (j : Int) < 16 := by omega
      have hk' : (k : Int) < 32 := by omega
      clear hlt
      have hx := index_one (P := Tryd.prog) (w := w1) (k := .i64) Tryd.underlying47 HI.out (by simp [Tryd.isAgg5]) (size_u8' w1) hci
      have hjw : IntKind.i64.wrap (j : Int) = (j : Int) := by rw [IntKind.wrap_i64]; omega
      have hyw : IntKind.u32.wrap (y : Int) = (y : Int) := by have := HY.out; rw [IntKind.wrap_u32]; omega
      have hkw : IntKind.i64.wrap (k : Int) = (k : Int) := by rw [IntKind.wrap_i64]; omega
      go_upto_region 5 with fail
      go_still_tail 12, (by kernel_rfl)
      change wpList _ _ _ _ _ w1.drew
      have hc3 : w1.drew.cell? ⟨w.heap.size + 2, j, none⟩ = some (.int .u32 (x : Int)) := hc3
      have hz : w1.drew.frozen? ⟨w.heap.size + 2, j, none⟩ = false := hz
      have k2 : Kept Nix w w1.drew := k1.drew
      have B2 : Hid (w1.drew.heap[w.heap.size + 1]? = _) := Lib.hid B2.out
      have B3 : Hid (w1.drew.heap[w.heap.size + 2]? = _) := Lib.hid B3.out
      generalize w1.drew = w2 at *
      go_wp2
      have ev : bits .or .u32 (x : Int) (IntKind.u32.wrap ((y : Int) * 2 ^ k)) = ((x ||| y * 2 ^ k : Nat) : Int) := by
        have hp : y * 2 ^ k < 4294967296 := by
          have h1 : 2 ^ k ≤ 2 ^ 24 := Nat.pow_le_pow_right (by decide) HK.out
          have h2 := HY.out
          calc y * 2 ^ k ≤ 255 * 2 ^ 24 := Nat.mul_le_mul (by omega) h1
            _ < 4294967296 := by decide
        rw [← u32_or_nat x (y * 2 ^ k) HW.out hp, show (y : Int) * 2 ^ k = ((y * 2 ^ k : Nat) : Int) by rw [Int.natCast_mul, Int.natCast_pow]; rfl]
        congr 1
        rw [IntKind.wrap_u32]
        omega
      have ev2 : bits .or .u32 (x : Int) ((y : Int) * 2 ^ k % 4294967296) = ((x ||| y * 2 ^ k : Nat) : Int) := by rw [← ev, IntKind.wrap_u32]
      rw [ev2]
      refine ⟨⟨rfl, rfl, rfl, rfl, by rw [HC.out]; rfl, k2.setCell (.inr (by simp)) _, ?_, i + 1, HI.out, rfl, ?_⟩, ?_⟩
      · rw [heap_set_other (by simp)]; exact B2.out
      · rw [heap_set B3.out, List.setIfInBounds_toArray, u32s_set, HV.out]
      · have := HI.out
        simp [intOf]; omega
    · have e : i = 64 := by omega
      subst e
      rw [part_all _ HL.out] at b3
      have zt : (u32s (wrds B)).toArray.size = 16 := by simp [u32s, wrds]
      generalize hcs : (u32s (wrds B)).toArray = cs at *
      have zs := Lib.hid (size_words.trans (congrArg some zt.symm))
      have H1 : Hid (cs.all (·.oneCell') = true) := Lib.hid (by rw [← hcs]; exact all_one (u32s_one _))
      have B2 := Lib.hid b2
      have B3 := Lib.hid b3
      have ZT := Lib.hid zt
      have HCS := Lib.hid hcs
      clear b2 b3 zt hcs
      go_wp2_with (first | (refine wpList_load_row rfl 51 _ rfl _ rfl 51 cs _ _ B3.out Tryd.underlying51 rfl zs.out ?_) | (refine wpList_store_row rfl 51 _ _ rfl _ _ rfl rfl 51 _ B2.out zs.out (by rw [ZT.out]; rfl) H1.out ?_))
      refine ret_row (by rfl) (w.heap.size + 1) 51 cs (0, 0) _ rfl (heap_row cs B2.out) Tryd.underlying51 rfl zs.out rfl ⟨by rw [HCS.out], k1.setRow (.inr (by omega)) _⟩

end Go.Proofs.YtfcidddpoofjgaaDoor
