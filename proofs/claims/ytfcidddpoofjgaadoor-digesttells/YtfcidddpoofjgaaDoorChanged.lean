/- The contract of digest.changed: 64 steps. -/
import Derived.Test.YtfcidddpoofjgaaDoorBlockW
import Derived.Test.YtfcidddpoofjgaaDoorKinds
namespace Go.Proofs.YtfcidddpoofjgaaDoor
open Go.RowKit Bx Md

/-- The table lies in the first variable. -/
def Tab (w : World) : Prop := ∀ i, i < 64 → w.cell? ⟨0, i, none⟩ = some (.int .u32 ((sine i : Nat) : Int))

theorem Tab.pos {w : World} (h : Tab w) : 0 < w.heap.size := by
  have := World.block_lt_of_cell? w _ (h 0 (by decide))
  exact this
theorem Tab.kept {w w' : World} {S : Nat → Prop} (h : Tab w) (hk : Kept S w w') (hS : ¬ S 0) : Tab w' := fun i hi => (World.cell?_of_block (hk.block 0 h.pos hS)).trans (h i hi)
theorem Tab.nix {w w' : World} (h : Tab w) (hk : Kept Nix w w') : Tab w' := h.kept hk (fun h => h)

def fnum : Nat → Nat
  | 0 => 27
  | 1 => 28
  | 2 => 29
  | _ => 30

def kdOf (n : Nat) : List Value := [.func (.func (fnum n)) #[] #[], .int .i64 ((tims n : Nat) : Int), .int .i64 ((plus n : Nat) : Int)] ++ (trns n).map (fun t : Nat => Value.int .i64 (t : Int))

theorem kds_at (n : Nat) (hn : n < 4) : kds.toArray.extract (n * 7) (n * 7 + 7) = (kdOf n).toArray := by
  match n, hn with
  | 0, _ | 1, _ | 2, _ | 3, _ => rfl
  | k + 4, h => exact absurd h (by omega)

theorem kdOf_size (n : Nat) (hn : n < 4) : (kdOf n).toArray.size = 7 := by
  match n, hn with
  | 0, _ | 1, _ | 2, _ | 3, _ => rfl
  | k + 4, h => exact absurd h (by omega)
theorem kdOf_one (n : Nat) (hn : n < 4) : (kdOf n).toArray.all (·.oneCell') = true := by
  match n, hn with
  | 0, _ | 1, _ | 2, _ | 3, _ => simp [kdOf, trns, Value.oneCell']
  | k + 4, h => exact absurd h (by omega)

theorem mixn_any (n b c d : Nat) (w : World) (hn : n < 4) (hb : b < 4294967296) (hc : c < 4294967296) (hd : d < 4294967296) :
    Calls Tryd.prog (fnum n) #[.int .u32 (b : Int), .int .u32 (c : Int), .int .u32 (d : Int)] w fun e w' => e = .returned (.int .u32 ((mix n b c d : Nat) : Int)) ∧ w = w' := by
  match n, hn with
  | 0, _ => exact mix0_any b c d w hb hc hd
  | 1, _ => exact mix1_any b c d w hb hc hd
  | 2, _ => exact mix2_any b c d w hb hc hd
  | 3, _ => exact mix3_any b c d w hb hc hd
  | k + 4, h => exact absurd h (by omega)

theorem size_kind (w : World) : (sizeOf 58).run Tryd.prog w = .ok 7 w := by kernel_rfl
theorem agg_kind (w : World) : (isAgg 58).run Tryd.prog w = .ok true w := by kernel_rfl

/-- A row of the table of kinds. -/
theorem index_row {w : World} (cs : Array Value) (n : Nat) (hn : n < 4) : (Instr.index 59 (.agg cs) (.int .i64 (n : Int))).run Tryd.prog w = .ok (.agg (cs.extract (n * 7) (n * 7 + 7))) w := by
  simp [Instr.index, asIntOf, Sem.run_bind, run_underlying Tryd.underlying59, Go.part]
  omega

theorem tims_le (n : Nat) : tims n ≤ 7 := by unfold tims; split <;> decide
theorem plus_le (n : Nat) : plus n ≤ 5 := by unfold plus; split <;> decide
theorem fnum_four (n : Nat) : fnum n = 27 ∨ fnum n = 28 ∨ fnum n = 29 ∨ fnum n = 30 := by
  unfold fnum
  split
  · exact .inl rfl
  · exact .inr (.inl rfl)
  · exact .inr (.inr (.inl rfl))
  · exact .inr (.inr (.inr rfl))

theorem kdOf_turn (n i : Nat) (hn : n < 4) : (kdOf n).toArray[3 + i % 4]? = some (.int .i64 ((trn n i : Nat) : Int)) := by
  have hm : i % 4 < 4 := Nat.mod_lt _ (by decide)
  unfold trn
  generalize i % 4 = j at *
  match n, hn, j, hm with
  | 0, _, 0, _ | 0, _, 1, _ | 0, _, 2, _ | 0, _, 3, _ | 1, _, 0, _ | 1, _, 1, _ | 1, _, 2, _ | 1, _, 3, _ | 2, _, 0, _ | 2, _, 1, _ | 2, _, 2, _ | 2, _, 3, _ | 3, _, 0, _ | 3, _, 1, _ | 3, _, 2, _ | 3, _, 3, _ => rfl
  | k + 4, h, _, _ => exact absurd h (by omega)
  | 0, _, k + 4, h | 1, _, k + 4, h | 2, _, k + 4, h | 3, _, k + 4, h => exact absurd h (by omega)

/-- What stays in memory while the steps go. -/
def ChMem (q : Quad) (X : List Nat) (w w' : World) : Prop :=
  Kept Nix w w' ∧ w'.heap[w.heap.size]? = some (.cells (u32s (ws q)).toArray 46 (0, 0)) ∧ w'.heap[w.heap.size + 1]? = some (.cells (u32s X).toArray 51 (0, 0)) ∧ ∃ cs, cs.size = 4 ∧ w'.heap[w.heap.size + 2]? = some (.cells cs 46 (0, 0))

theorem ChMem.nix {q : Quad} {X : List Nat} {w w1 w2 : World} (h : ChMem q X w w1) (k : Kept Nix w1 w2) : ChMem q X w w2 := by
  obtain ⟨k1, h1, h2, cs, hc, h3⟩ := h
  exact ⟨nix_trans k1 k, k.heap h1 (fun h => h), k.heap h2 (fun h => h), cs, hc, k.heap h3 (fun h => h)⟩

def ChOut (q : Quad) (X : List Nat) (w : World) (a : Act) (w' : World) : Prop :=
  a.defers = [] ∧ a.tmps.size = 88 ∧ a.tmps[2]? = some (.pointer (some ⟨w.heap.size, 0, none⟩)) ∧ a.tmps[3]? = some (.pointer (some ⟨w.heap.size + 1, 0, none⟩)) ∧ a.tmps[4]? = some (.pointer (some ⟨w.heap.size + 2, 0, none⟩)) ∧
    a.tmps[21]? = some (.agg kds.toArray) ∧ ChMem q X w w' ∧ ∃ n, n ≤ 4 ∧ a.tmps[22]? = some (.int .i64 ((n : Nat) : Int)) ∧
    a.tmps[5]? = some (.int .u32 (((stps X (16 * n) q).a : Nat) : Int)) ∧ a.tmps[6]? = some (.int .u32 (((stps X (16 * n) q).b : Nat) : Int)) ∧ a.tmps[7]? = some (.int .u32 (((stps X (16 * n) q).c : Nat) : Int)) ∧ a.tmps[8]? = some (.int .u32 (((stps X (16 * n) q).d : Nat) : Int))

def ChIn (q : Quad) (X : List Nat) (n K : Nat) (w : World) (a : Act) (w' : World) : Prop :=
  a.defers = [] ∧ a.tmps.size = 88 ∧ a.tmps[2]? = some (.pointer (some ⟨w.heap.size, 0, none⟩)) ∧ a.tmps[3]? = some (.pointer (some ⟨w.heap.size + 1, 0, none⟩)) ∧ a.tmps[4]? = some (.pointer (some ⟨w.heap.size + 2, 0, none⟩)) ∧
    a.tmps[21]? = some (.agg kds.toArray) ∧ ChMem q X w w' ∧ a.tmps[22]? = some (.int .i64 ((n : Nat) : Int)) ∧ a.tmps[9]? = some (.int .i64 ((n : Nat) : Int)) ∧ a.tmps[10]? = some (.pointer (some ⟨K, 0, none⟩)) ∧
    w'.heap[K]? = some (.cells (kdOf n).toArray 58 (0, 0)) ∧ ∃ i, 16 * n ≤ i ∧ i ≤ 16 * n + 16 ∧ a.tmps[11]? = some (.int .i64 ((i : Nat) : Int)) ∧
    a.tmps[5]? = some (.int .u32 (((stps X i q).a : Nat) : Int)) ∧ a.tmps[6]? = some (.int .u32 (((stps X i q).b : Nat) : Int)) ∧ a.tmps[7]? = some (.int .u32 (((stps X i q).c : Nat) : Int)) ∧ a.tmps[8]? = some (.int .u32 (((stps X i q).d : Nat) : Int))

theorem all_four (a b c d : Int) : (#[Value.int .u32 a, .int .u32 b, .int .u32 c, .int .u32 d]).all (·.oneCell') = true := by simp [Value.oneCell']

theorem size_quad : (Tryd.prog.info? 46).map (·.size) = some 4 := by kernel_rfl

set_option maxHeartbeats 1000000 in
theorem changed_any (q : Quad) (X : List Nat) (w : World) (hq : q.fits) (hX : X.length = 16) (hXb : ∀ x ∈ X, x < 4294967296) (hT : Tab w) :
    Calls Tryd.prog 21 #[.agg (u32s (ws q)).toArray, .agg (u32s X).toArray] w fun e w' => e = .returned (.agg (u32s (ws (blk q X))).toArray) ∧ Kept Nix w w' := by
  have HQ := Lib.hid hq
  have HX := Lib.hid hX
  have HXB := Lib.hid hXb
  have HT := Lib.hid hT
  clear hq hX hXb hT
  have K1 := Lib.hid kinds_any
  have hm : ChMem q X w (((w.alloc (.cells (u32s (ws q)).toArray 46)).alloc (.cells (u32s X).toArray 51)).alloc (.cells #[.int .u32 0, .int .u32 0, .int .u32 0, .int .u32 0] 46)) := by
    refine ⟨(((Kept.refl _ w).alloc _).alloc _).alloc _, ?_, ?_, #[.int .u32 0, .int .u32 0, .int .u32 0, .int .u32 0], rfl, ?_⟩
    · rw [Below.heap_alloc _ _ _ (by simp; omega), Below.heap_alloc _ _ _ (by simp), heap_alloc_new]
    · rw [Below.heap_alloc _ _ _ (by simp)]; exact heap_new (by simp)
    · exact heap_new (by simp)
  have HM := Lib.hid hm
  clear hm
  go_enter Tryd.func21, Tryd.ntmps21
  go_upto_region 1 with fail
  generalize (((w.alloc (.cells (u32s (ws q)).toArray 46)).alloc (.cells (u32s X).toArray 51)).alloc (.cells #[.int .u32 0, .int .u32 0, .int .u32 0, .int .u32 0] 46)) = w1 at *
  have hc0 : w1.cell? ⟨w.heap.size, 0, none⟩ = some (.int .u32 (q.a : Int)) := by rw [cell_of HM.out.2.1]; rfl
  have hc1 : w1.cell? ⟨w.heap.size, 1, none⟩ = some (.int .u32 (q.b : Int)) := by rw [cell_of HM.out.2.1]; rfl
  have hc2 : w1.cell? ⟨w.heap.size, 2, none⟩ = some (.int .u32 (q.c : Int)) := by rw [cell_of HM.out.2.1]; rfl
  have hc3 : w1.cell? ⟨w.heap.size, 3, none⟩ = some (.int .u32 (q.d : Int)) := by rw [cell_of HM.out.2.1]; rfl
  go_quiet (fail)
  have hm : ChMem q X w (w1.drewN nq) := HM.out.nix ((Kept.refl _ w1).drewN nq)
  have HM := Lib.hid hm
  clear hm hc0 hc1 hc2 hc3
  generalize w1.drewN nq = w2 at *
  go_wp2_with fail
  refine (K1.out w2).mono ?_
  rintro e w3 ⟨rfl, k3⟩
  have HM := Lib.hid (HM.out.nix k3)
  clear k3
  go_wp2_with fail
  refine wp_loop (ChOut q X w) (fun a _ => 4 - (intOf (a.tmps.getD 22 undef)).toNat) ?_ ?_
  · exact ⟨rfl, rfl, rfl, rfl, rfl, rfl, HM.out, 0, Nat.zero_le _, rfl, rfl, rfl, rfl, rfl⟩
  · rintro ⟨tm, df⟩ wa ⟨rfl, hs, h2, h3, h4, h21, hm, n, hn, h22, h5, h6, h7, h8⟩
    simp only at hs h2 h3 h4 h21 h22 h5 h6 h7 h8
    obtain ⟨f, hf, hg⟩ := fr_open hs
    have e2 := hg _ _ h2
    have e3 := hg _ _ h3
    have e4 := hg _ _ h4
    have e5 := hg _ _ h5
    have e6 := hg _ _ h6
    have e7 := hg _ _ h7
    have e8 := hg _ _ h8
    have e21 := hg _ _ h21
    have e22 := hg _ _ h22
    simp only [List.range, List.range.loop, List.map] at hf
    rw [e2, e3, e4, e5, e6, e7, e8, e21, e22] at hf
    clear e2 e3 e4 e5 e6 e7 e8 e21 e22 hg hs h2 h3 h4 h5 h6 h7 h8 h21 h22
    subst hf
    have HM := Lib.hid hm
    clear hm
    by_cases hlt : n < 4
    · have hn4 : (n : Int) < 4 := by omega
      have HN := Lib.hid hlt
      have hx := index_row (w := wa) kds.toArray n hlt
      rw [kds_at n hlt] at hx
      generalize hkk : kds.toArray = kk at *
      have HKK := Lib.hid hkk
      clear hkk
      have KS : Hid ((Tryd.prog.info? 58).map (·.size) = some (kdOf n).toArray.size) := Lib.hid (by rw [kdOf_size n hlt]; kernel_rfl)
      have KA : Hid ((kdOf n).toArray.all (·.oneCell') = true) := Lib.hid (kdOf_one n hlt)
      have KZ : Hid (7 = (kdOf n).toArray.size) := Lib.hid (kdOf_size n hlt).symm
      clear hlt hn
      generalize hkn : (kdOf n).toArray = kn at *
      have HKN := Lib.hid hkn
      clear hkn
      go_upto_region 5 with (first | (refine wpList_store_row rfl 58 _ _ rfl _ _ rfl rfl 58 _ (heap_alloc_new wa _) KS.out KZ.out KA.out ?_))
      have hkk : (wa.alloc (.cells #[.nilFunc, .int .i64 0, .int .i64 0, .int .i64 0, .int .i64 0, .int .i64 0, .int .i64 0] 58)).heap[wa.heap.size]? = _ := heap_alloc_new wa _
      have hkw := heap_row kn hkk
      have hmm : ChMem q X w ((wa.alloc (.cells #[.nilFunc, .int .i64 0, .int .i64 0, .int .i64 0, .int .i64 0, .int .i64 0, .int .i64 0] 58)).setRow wa.heap.size kn) :=
        HM.out.nix (((Kept.refl Nix wa).alloc _).setRow (.inr (Nat.le_refl _)) _)
      clear hkk HM hx
      have HM := Lib.hid hmm
      have HKW := Lib.hid hkw
      clear hmm hkw
      generalize (wa.alloc (.cells #[.nilFunc, .int .i64 0, .int .i64 0, .int .i64 0, .int .i64 0, .int .i64 0, .int .i64 0] 58)).setRow wa.heap.size kn = wb at *
      generalize wa.heap.size = K at *
      have hmul : (n : Int) * 16 = ((16 * n : Nat) : Int) := by omega
      go_wp2_with fail
      refine wp_loop (ChIn q X n K w) (fun a _ => 16 * n + 16 - (intOf (a.tmps.getD 11 undef)).toNat) ?_ ?_
      · refine ⟨rfl, rfl, rfl, rfl, rfl, by rw [HKK.out]; rfl, HM.out, rfl, rfl, rfl, by rw [HKN.out]; exact HKW.out, 16 * n, Nat.le_refl _, by omega, ?_, rfl, rfl, rfl, rfl⟩
        rw [show ((16 * n : Nat) : Int) = 16 * (n : Int) by omega]; rfl
      · clear HKW HM hmul
        rintro ⟨tm, df⟩ wc ⟨rfl, hs, h2, h3, h4, h21, hm, h22, h9, h10, hkk, i, hi1, hi2, h11, h5, h6, h7, h8⟩
        simp only at hs h2 h3 h4 h21 h22 h9 h10 h11 h5 h6 h7 h8
        rw [HKK.out] at h21
        obtain ⟨g, hf, hg⟩ := fr_open hs
        have e2 := hg _ _ h2
        have e3 := hg _ _ h3
        have e4 := hg _ _ h4
        have e5 := hg _ _ h5
        have e6 := hg _ _ h6
        have e7 := hg _ _ h7
        have e8 := hg _ _ h8
        have e9 := hg _ _ h9
        have e10 := hg _ _ h10
        have e11 := hg _ _ h11
        have e21 := hg _ _ h21
        have e22 := hg _ _ h22
        simp only [List.range, List.range.loop, List.map] at hf
        rw [e2, e3, e4, e5, e6, e7, e8, e9, e10, e11, e21, e22] at hf
        clear e2 e3 e4 e5 e6 e7 e8 e9 e10 e11 e21 e22 hg hs h2 h3 h4 h5 h6 h7 h8 h9 h10 h11 h21 h22
        subst hf
        have HM := Lib.hid hm
        have HKC := Lib.hid hkk
        have hmul : ((n : Int) + 1) * 16 = ((16 * n + 16 : Nat) : Int) := by omega
        have HN64 : Hid (16 * n + 16 ≤ 64) := Lib.hid (by have := HN.out; omega)
        have HI1 := Lib.hid hi1
        have HI2 := Lib.hid hi2
        by_cases hlm : i < 16 * n + 16
        · have hf0 : wc.cell? ⟨K, 0, none⟩ = some (.func (.func (fnum n)) #[] #[]) := by rw [cell_of hkk]; rfl
          have hf1 : wc.cell? ⟨K, 1, none⟩ = some (.int .i64 ((tims n : Nat) : Int)) := by rw [cell_of hkk]; rfl
          have hf2 : wc.cell? ⟨K, 2, none⟩ = some (.int .i64 ((plus n : Nat) : Int)) := by rw [cell_of hkk]; rfl
          have hi64 : i < 64 := by have := HN64.out; omega
          have hft : wc.cell? ⟨K, 3 + i % 4, none⟩ = some (.int .i64 ((trn n i : Nat) : Int)) := by rw [cell_of hkk]; exact kdOf_turn n i HN.out
          have hsn := (HT.out.nix hm.1) i hi64
          have hix : idx n i < 16 := Nat.mod_lt _ (by decide)
          have hxx : wc.cell? ⟨w.heap.size + 1, idx n i, none⟩ = some (.int .u32 ((X.getD (idx n i) 0 : Nat) : Int)) := by rw [cell_of hm.2.2.1, List.getElem?_toArray]; exact u32s_get X _ (by rw [HX.out]; exact hix)
          have hF4 : fnum n = 27 ∨ fnum n = 28 ∨ fnum n = 29 ∨ fnum n = 30 := fnum_four n
          have hfit := stps_fits X HQ.out i
          have HMX := Lib.hid (fun w' => mixn_any n _ _ _ w' HN.out hfit.2.1 hfit.2.2.1 hfit.2.2.2)
          have HML := Lib.hid (mix_lt n _ _ _ hfit.2.1 hfit.2.2.1 hfit.2.2.2)
          have HFIT := Lib.hid hfit
          have hn16 : i / 16 = n := by omega
          have HNX : Hid (stps X (i + 1) q = ⟨(stps X i q).d, ((stps X i q).b + rot (sum X n i (stps X i q)) (trn n i)) % 4294967296, (stps X i q).b, (stps X i q).c⟩) := Lib.hid (by rw [← hn16]; rfl)
          have HSU : Hid (sum X n i (stps X i q) = ((stps X i q).a + mix n (stps X i q).b (stps X i q).c (stps X i q).d + sine i + X.getD (idx n i) 0) % 4294967296) := Lib.hid rfl
          have hsl : sum X n i (stps X i q) < 4294967296 := Nat.mod_lt _ (by decide)
          have hst := trn_lt n i HN.out
          have HRT := Lib.hid (fun w' => rotl_any (sum X n i (stps X i q)) (trn n i) w' hsl hst.1 hst.2)
          have hq1 : (tims n * i + plus n) % 16 = idx n i := rfl
          have ht7 : tims n ≤ 7 := tims_le n
          have hp5 : plus n ≤ 5 := plus_le n
          have e1 : IntKind.i64.wrap (((tims n : Nat) : Int) * (i : Int)) = ((tims n * i : Nat) : Int) := by
            have h7 : tims n * i ≤ 7 * 64 := Nat.mul_le_mul ht7 (by omega)
            rw [← Int.natCast_mul, IntKind.wrap_i64]; omega
          have h448 : tims n * i ≤ 448 := Nat.mul_le_mul ht7 (show i ≤ 64 by omega)
          generalize tims n = t at *
          generalize plus n = pl at *
          generalize t * i = m1 at *
          have e2 : IntKind.i64.wrap ((m1 : Int) + (pl : Int)) = ((m1 + pl : Nat) : Int) := by rw [IntKind.wrap_i64]; omega
          have hm16 : ((m1 + pl : Nat) : Int).tmod 16 = (((m1 + pl) % 16 : Nat) : Int) := by rw [Int.tmod_eq_emod_of_nonneg (by omega)]; omega
          rw [hq1] at hm16
          generalize m1 + pl = m2 at *
          clear hq1 ht7 hp5 h448 hn16
          generalize hrr : stps X i q = r at *
          have HRR := Lib.hid hrr
          clear hrr
          generalize sum X n i r = S at *
          generalize mix n r.b r.c r.d = mx at *
          generalize idx n i = ix at *
          generalize X.getD ix 0 = xx at *
          generalize sine i = sn at *
          generalize trn n i = sh at *
          have hix' : (ix : Int) < 16 := by omega
          have hi64' : (i : Int) < 64 := by omega
          generalize fnum n = F at *
          have HSL := Lib.hid hsl
          clear hsl hst hfit hm hkk hi1 hi2 HX HXB
          go_upto_region 8 with fail
          have E12 : (((r.a : Int) + (mx : Int) + (sn : Int)) % 4294967296 + (xx : Int)) % 4294967296 = (S : Int) := by rw [HSU.out]; omega
          have E12 := Lib.hid E12
          have e4 : (i : Int) % 4 = ((i % 4 : Nat) : Int) := by omega
          have hj4 : i % 4 < 4 := Nat.mod_lt _ (by decide)
          have HLM := Lib.hid hlm
          generalize i % 4 = j4 at *
          have hj4' : (j4 : Int) < 4 := by omega
          rcases hF4 with rfl | rfl | rfl | rfl
          all_goals
            go_quiet (first | (go_at_call 27; exact Calls.quiet_of_same ((HMX.out _).mono fun _ _ ⟨h1, h2⟩ => ⟨h1, h2.symm⟩)) | (go_at_call 28; exact Calls.quiet_of_same ((HMX.out _).mono fun _ _ ⟨h1, h2⟩ => ⟨h1, h2.symm⟩)) | (go_at_call 29; exact Calls.quiet_of_same ((HMX.out _).mono fun _ _ ⟨h1, h2⟩ => ⟨h1, h2.symm⟩)) | (go_at_call 30; exact Calls.quiet_of_same ((HMX.out _).mono fun _ _ ⟨h1, h2⟩ => ⟨h1, h2.symm⟩)))
            rw [E12.out]
            have HM : Hid (ChMem q X w (wc.drewN nq)) := Lib.hid (HM.out.nix ((Kept.refl _ wc).drewN nq))
            have HKC : Hid ((wc.drewN nq).heap[K]? = _) := Lib.hid HKC.out
            have hft : (wc.drewN nq).cell? ⟨K, 3 + j4, none⟩ = some (.int .i64 (sh : Int)) := hft
            generalize wc.drewN nq = wd at *
            clear hf0 hf1 hf2 hsn hxx e1 e2 hm16 hlm hmul HMX HML HSU
            go_wp2_with (first | (go_at_call 26; refine (HRT.out _).mono ?_; rintro e w2 ⟨rfl, rfl⟩))
            refine ⟨⟨rfl, rfl, rfl, rfl, rfl, by rw [HKK.out]; rfl, HM.out, rfl, rfl, rfl, HKC.out, i + 1, by have := HI1.out; omega, by have := HLM.out; omega, rfl, ?_, ?_, ?_, ?_⟩, ?_⟩
            · rw [HNX.out]; rfl
            · rw [HNX.out]; exact congrArg (fun z => some (Value.int .u32 z)) (by rw [Int.natCast_emod, Int.natCast_add]; rfl)
            · rw [HNX.out]; rfl
            · rw [HNX.out]; rfl
            · have := HLM.out
              simp [intOf]; omega
        · have e : i = 16 * n + 16 := by omega
          subst e
          have hd : decide (((16 * n + 16 : Nat) : Int) < ((16 * n + 16 : Nat) : Int)) = false := by simp
          clear hm hkk hi1 hi2 hlm
          generalize hm : 16 * n + 16 = m at *
          have HMM := Lib.hid hm
          clear hm
          go_wp2
          refine ⟨⟨rfl, rfl, rfl, rfl, rfl, by rw [HKK.out]; rfl, HM.out, n + 1, HN.out, rfl, ?_, ?_, ?_, ?_⟩, ?_⟩
          · rw [show 16 * (n + 1) = m by rw [← HMM.out]; omega]; rfl
          · rw [show 16 * (n + 1) = m by rw [← HMM.out]; omega]; rfl
          · rw [show 16 * (n + 1) = m by rw [← HMM.out]; omega]; rfl
          · rw [show 16 * (n + 1) = m by rw [← HMM.out]; omega]; rfl
          · have := HN.out
            simp [intOf]; omega
    · have e : n = 4 := by omega
      subst e
      obtain ⟨hk, hm1, hm2, cs, hcs, hm3⟩ := HM.out
      have hc0 : wa.cell? ⟨w.heap.size, 0, none⟩ = some (.int .u32 (q.a : Int)) := by rw [cell_of hm1]; rfl
      have hc1 : wa.cell? ⟨w.heap.size, 1, none⟩ = some (.int .u32 (q.b : Int)) := by rw [cell_of hm1]; rfl
      have hc2 : wa.cell? ⟨w.heap.size, 2, none⟩ = some (.int .u32 (q.c : Int)) := by rw [cell_of hm1]; rfl
      have hc3 : wa.cell? ⟨w.heap.size, 3, none⟩ = some (.int .u32 (q.d : Int)) := by rw [cell_of hm1]; rfl
      have HK := Lib.hid hk
      have H3 := Lib.hid hm3
      have HCS := Lib.hid hcs
      have HBL : Hid (blk q X = add q (stps X 64 q)) := Lib.hid rfl
      clear hk hm1 hm2 hm3 hcs HM hn hlt
      rw [show 16 * 4 = 64 from rfl]
      generalize stps X 64 q = r at *
      go_wp2_with (first | (refine wpList_store_row rfl 46 _ _ rfl _ _ rfl rfl 46 _ H3.out size_quad HCS.out (all_four _ _ _ _) ?_))
      have ec : ∀ x y : Nat, ((x : Int) + (y : Int)) % 4294967296 = (((x + y) % 4294967296 : Nat) : Int) := fun x y => by omega
      rw [ec, ec, ec, ec]
      refine ret_row (by rfl) (w.heap.size + 2) 46 _ (0, 0) _ rfl (heap_row _ H3.out) Tryd.underlying46 rfl size_quad rfl ⟨by rw [HBL.out]; rfl, HK.out.setRow (.inr (by omega)) _⟩

end Go.Proofs.YtfcidddpoofjgaaDoor
