/- The contract of the reference's Of: one step, one block. -/
import Derived.Test.YtfcidddpoofjgaaDoorRefStep
import Derived.Test.YtfcidddpoofjgaaDoorRefFill5
import Derived.Test.YtfcidddpoofjgaaDoorTold
import Derived.Deep.RegionHeld3
namespace Go.Proofs.YtfcidddpoofjgaaDoor
open Go.RowKit Bx Md

/-- Four words as numbers at block g. -/
def WS (w : World) (g : Nat) (q : Quad) : Prop := w.cell? ⟨g, 0, none⟩ = some (.int .i64 (q.a : Int)) ∧ w.cell? ⟨g, 1, none⟩ = some (.int .i64 (q.b : Int)) ∧ w.cell? ⟨g, 2, none⟩ = some (.int .i64 (q.c : Int)) ∧ w.cell? ⟨g, 3, none⟩ = some (.int .i64 (q.d : Int))

theorem cell_nix {w w' : World} {b i : Nat} {u : Value} (h : w.cell? ⟨b, i, none⟩ = some u) (k : Kept Nix w w') : w'.cell? ⟨b, i, none⟩ = some u :=
  (World.cell?_of_block (k.block b (World.block_lt_of_cell? w _ h) (fun h => h))).trans h
theorem WS.nix {w w' : World} {g : Nat} {q : Quad} (h : WS w g q) (k : Kept Nix w w') : WS w' g q := ⟨cell_nix h.1 k, cell_nix h.2.1 k, cell_nix h.2.2.1 k, cell_nix h.2.2.2 k⟩

/-- A part of a slice of bytes. -/
theorem run_part (w : World) (b off len cap lo : Nat) (h : lo + 4 ≤ len) (hc : len ≤ cap) :
    (Instr.slice 22 (.slice (some ⟨b, off, none⟩) len cap) (some (.int .i64 (lo : Int))) (some (.int .i64 ((lo + 4 : Nat) : Int))) none).run Tryd.prog w = .ok (.slice (some ⟨b, off + lo, none⟩) 4 (cap - lo)) w := by
  have e1 : lo + 4 ≤ cap := by omega
  have e2 : lo ≤ lo + 4 := by omega
  have e3 : ¬ cap = lo := by omega
  have e4 : (0 : Int) ≤ ((lo + 4 : Nat) : Int) ∧ ((lo + 4 : Nat) : Int) ≤ (cap : Int) := by omega
  have e5 : (0 : Int) ≤ (lo : Int) ∧ (lo : Int) ≤ ((lo + 4 : Nat) : Int) := by omega
  simp only [Instr.slice, run_underlying Tryd.underlying22, Instr.sliceBounds, Instr.sliceBound, asIntOf, Sem.run_bind, Sem.run_pure, Result.andThen_ok, if_pos e4, Int.toNat_natCast, if_pos e5, size_u8, e3, if_false, Nat.mul_one, Option.map_some, Addr.add_lit]
  rw [show lo + 4 - lo = 4 by omega]
theorem run_part_at (w : World) (b off len cap lo : Nat) (h : lo + 4 ≤ len) (hc : len ≤ cap) :
    (Instr.sliceAt 22 (.slice (some ⟨b, off, none⟩) len cap) (some (.int .i64 (lo : Int))) (some (.int .i64 ((lo + 4 : Nat) : Int))) none).run Tryd.prog w = .ok (.slice (some ⟨b, off + lo, none⟩) 4 (cap - lo)) w := by
  have ht : Tryd.prog.underlying 22 = some (.slice (Tryd.prog.elem 22)) := by rw [elem_bytes]; exact Tryd.underlying22
  rw [run_sliceAt_slice w 22 _ _ _ _ ht, run_part w b off len cap lo h hc]

/-- The word of a block, out of the whole text. -/
theorem wrd_text (F : List Nat) (n k : Nat) (hk : k < 16) : (wrds ((F.drop (64 * n)).take 64)).getD k 0 = F.getD (64 * n + 4 * k) 0 + 256 * F.getD (64 * n + 4 * k + 1) 0 + 65536 * F.getD (64 * n + 4 * k + 2) 0 + 16777216 * F.getD (64 * n + 4 * k + 3) 0 := by
  rw [wrds_get _ _ hk]
  have h : ∀ j, j < 64 → ((F.drop (64 * n)).take 64).getD j 0 = F.getD (64 * n + j) 0 := by
    intro j hj
    simp only [List.getD_eq_getElem?_getD, List.getElem?_take, if_pos hj, List.getElem?_drop]
  unfold wrd
  rw [h _ (by omega), h _ (by omega), h _ (by omega), h _ (by omega)]
  simp only [Nat.add_assoc]

theorem wrap_small (x : Int) (h0 : 0 ≤ x) (h1 : x < 4611686018427387904) : wrap64 x = x := by unfold wrap64; omega
theorem word_sum (x0 x1 x2 x3 : Nat) (h0 : x0 < 256) (h1 : x1 < 256) (h2 : x2 < 256) (h3 : x3 < 256) :
    wrap64 (wrap64 (wrap64 (wrap64 (x0 : Int) + wrap64 (256 * wrap64 (x1 : Int))) + wrap64 (65536 * wrap64 (x2 : Int))) + wrap64 (16777216 * wrap64 (x3 : Int))) = ((x0 + 256 * x1 + 65536 * x2 + 16777216 * x3 : Nat) : Int) := by
  rw [wrap_small (x0 : Int) (by omega) (by omega), wrap_small (x1 : Int) (by omega) (by omega), wrap_small (x2 : Int) (by omega) (by omega), wrap_small (x3 : Int) (by omega) (by omega)]
  rw [wrap_small (256 * (x1 : Int)) (by omega) (by omega), wrap_small (65536 * (x2 : Int)) (by omega) (by omega), wrap_small (16777216 * (x3 : Int)) (by omega) (by omega)]
  rw [wrap_small ((x0 : Int) + 256 * (x1 : Int)) (by omega) (by omega), wrap_small ((x0 : Int) + 256 * (x1 : Int) + 65536 * (x2 : Int)) (by omega) (by omega), wrap_small _ (by omega) (by omega)]
  omega
theorem wrap_nat (x : Nat) (h1 : x < 4611686018427387904) : wrap64 (x : Int) = (x : Int) := wrap_small _ (by omega) (by omega)
theorem wrapk_nat (x : Nat) (h1 : x < 4611686018427387904) : IntKind.i64.wrap (x : Int) = (x : Int) := by rw [IntKind.wrap_i64]; omega
theorem two_sum (a b : Nat) (ha : a < 4294967296) (hb : b < 4294967296) : (a : Int) + (b : Int) = ((a + b : Nat) : Int) ∧ wrap64 ((a + b : Nat) : Int) = ((a + b : Nat) : Int) ∧ IntKind.i64.wrap ((a + b : Nat) : Int) = ((a + b : Nat) : Int) :=
  ⟨by omega, wrap_nat _ (by omega), wrapk_nat _ (by omega)⟩
theorem xx_lt (x0 x1 x2 x3 : Nat) (h0 : x0 < 256) (h1 : x1 < 256) (h2 : x2 < 256) (h3 : x3 < 256) : x0 + 256 * x1 + 65536 * x2 + 16777216 * x3 < 4294967296 := by omega

/-- The sums of a step, as the walk has them. -/
theorem step_sums (a m s x b ro : Nat) (ha : a < 4294967296) (hm : m < 4294967296) (hs : s < 4294967296) (hx : x < 4294967296) (hb : b < 4294967296) (hr : ro < 4294967296) :
    ((a : Int) + (m : Int) = ((a + m : Nat) : Int) ∧ ((a + m : Nat) : Int) + (s : Int) = ((a + m + s : Nat) : Int) ∧ ((a + m + s : Nat) : Int) + (x : Int) = ((a + m + s + x : Nat) : Int) ∧ (b : Int) + (ro : Int) = ((b + ro : Nat) : Int)) ∧
    (wrap64 ((a + m : Nat) : Int) = ((a + m : Nat) : Int) ∧ wrap64 ((a + m + s : Nat) : Int) = ((a + m + s : Nat) : Int) ∧ wrap64 ((a + m + s + x : Nat) : Int) = ((a + m + s + x : Nat) : Int) ∧ wrap64 ((b + ro : Nat) : Int) = ((b + ro : Nat) : Int)) :=
  ⟨⟨by omega, by omega, by omega, by omega⟩, wrap_nat _ (by omega), wrap_nat _ (by omega), wrap_nat _ (by omega), wrap_nat _ (by omega)⟩

theorem ws_new (wb : World) (m0 m1 m2 m3 : Nat) : WS (wb.alloc (.cells #[.int .i64 (m0 : Int), .int .i64 (m1 : Int), .int .i64 (m2 : Int), .int .i64 (m3 : Int)] 3)).drew wb.heap.size ⟨m0, m1, m2, m3⟩ := by
  have h : WS (wb.alloc (.cells #[.int .i64 (m0 : Int), .int .i64 (m1 : Int), .int .i64 (m2 : Int), .int .i64 (m3 : Int)] 3)) wb.heap.size ⟨m0, m1, m2, m3⟩ := by
    refine ⟨?_, ?_, ?_, ?_⟩ <;> rw [cell_of (heap_alloc_new wb _)] <;> rfl
  exact h.nix (Kept.refl Nix _).drew
theorem next_at (n at_ : Nat) (h : 64 * n = at_) : (at_ : Int) + 64 = ((64 * (n + 1) : Nat) : Int) ∧ at_ + 64 = 64 * (n + 1) := by omega
theorem small_at (m : Nat) (h : m ≤ 1000100) : m < 4611686018427387904 := by omega
theorem meas_at (L at1 at_ : Nat) (h1 : at_ + 64 = at1) (h2 : at1 ≤ L) : L - ((at1 : Nat) : Int).toNat < L - ((at_ : Nat) : Int).toNat := by omega
theorem np_at (n at_ L : Nat) (h1 : at_ + 64 ≤ L) (h2 : 64 * n = at_) (h3 : L ≤ 1000100) : n + 1 ≤ 100000 ∧ 64 * (n + 1) ≤ L := by omega

def RO1 (F : List Nat) (gt ct gs : Nat) (w w0 : World) (a : Act) (w' : World) : Prop :=
  a.defers = [] ∧ a.tmps.size = 159 ∧ a.tmps[2]? = some (.pointer (some ⟨w.heap.size, 0, none⟩)) ∧ a.tmps[3]? = some (.slice (some ⟨gt, 0, none⟩) F.length ct) ∧ a.tmps[4]? = some (.slice (some ⟨gs, 0, none⟩) 64 64) ∧ Kept Nix w0 w' ∧
    ∃ n g, 64 * n ≤ F.length ∧ a.tmps[6]? = some (.int .i64 ((64 * n : Nat) : Int)) ∧ a.tmps[5]? = some (.slice (some ⟨g, 0, none⟩) 4 4) ∧ WS w' g (digN n F)

def RO2 (F : List Nat) (gt ct gs n g : Nat) (w w0 : World) (a : Act) (w' : World) : Prop :=
  a.defers = [] ∧ a.tmps.size = 159 ∧ a.tmps[2]? = some (.pointer (some ⟨w.heap.size, 0, none⟩)) ∧ a.tmps[3]? = some (.slice (some ⟨gt, 0, none⟩) F.length ct) ∧ a.tmps[4]? = some (.slice (some ⟨gs, 0, none⟩) 64 64) ∧ Kept Nix w0 w' ∧
    a.tmps[6]? = some (.int .i64 ((64 * n : Nat) : Int)) ∧ a.tmps[5]? = some (.slice (some ⟨g, 0, none⟩) 4 4) ∧ WS w' g (digN n F) ∧
    ∃ i, i ≤ 64 ∧ a.tmps[11]? = some (.int .i64 ((i : Nat) : Int)) ∧ a.tmps[7]? = some (.int .i64 ((stps (wrds ((F.drop (64 * n)).take 64)) i (digN n F)).a : Int)) ∧ a.tmps[8]? = some (.int .i64 ((stps (wrds ((F.drop (64 * n)).take 64)) i (digN n F)).b : Int)) ∧
      a.tmps[9]? = some (.int .i64 ((stps (wrds ((F.drop (64 * n)).take 64)) i (digN n F)).c : Int)) ∧ a.tmps[10]? = some (.int .i64 ((stps (wrds ((F.drop (64 * n)).take 64)) i (digN n F)).d : Int))

theorem WS.at {w : World} {g : Nat} {q : Quad} (h : WS w g q) (j : Nat) (hj : j < 4) : w.cell? ⟨g, j, none⟩ = some (.int .i64 (((ws q).getD j 0 : Nat) : Int)) := by
  match j, hj with
  | 0, _ => exact h.1
  | 1, _ => exact h.2.1
  | 2, _ => exact h.2.2.1
  | 3, _ => exact h.2.2.2

theorem WS.other {w w' : World} {g bo : Nat} {q : Quad} (h : WS w g q) (k : Kept (One bo) w w') (hne : g ≠ bo) : WS w' g q := by
  have e : ∀ i u, w.cell? ⟨g, i, none⟩ = some u → w'.cell? ⟨g, i, none⟩ = some u := fun i u hc => (World.cell?_of_block (k.block g (World.block_lt_of_cell? w _ hc) (fun h => hne h))).trans hc
  exact ⟨e _ _ h.1, e _ _ h.2.1, e _ _ h.2.2.1, e _ _ h.2.2.2⟩

theorem tell_by (q : Quad) (i : Nat) (hi : i < 16) : (ws q).getD (i / 4) 0 / 256 ^ (i % 4) % 256 = (tell q).getD i 0 := by
  rw [tell_get q i hi]
  have h4 : i % 4 < 4 := Nat.mod_lt _ (by decide)
  congr 2
  rw [show (256 : Nat) = 2 ^ 8 from rfl, ← Nat.pow_mul, Nat.mul_comm]

def RO3 (q : Quad) (g bo : Nat) (w w3 : World) (a : Act) (w' : World) : Prop :=
  a.defers = [] ∧ a.tmps.size = 159 ∧ a.tmps[2]? = some (.pointer (some ⟨w.heap.size, 0, none⟩)) ∧ a.tmps[5]? = some (.slice (some ⟨g, 0, none⟩) 4 4) ∧ a.tmps[18]? = some (.pointer (some ⟨bo, 0, none⟩)) ∧ Kept Nix w3 w' ∧ WS w' g q ∧
    ∃ i, i ≤ 16 ∧ a.tmps[19]? = some (.int .i64 ((i : Nat) : Int)) ∧ w'.heap[bo]? = some (.cells (u8s (half (tell q) 16 i)).toArray 24 (0, 0))

def RO4 (q : Quad) (g bo i x : Nat) (w w3 : World) (a : Act) (w' : World) : Prop :=
  a.defers = [] ∧ a.tmps.size = 159 ∧ a.tmps[2]? = some (.pointer (some ⟨w.heap.size, 0, none⟩)) ∧ a.tmps[5]? = some (.slice (some ⟨g, 0, none⟩) 4 4) ∧ a.tmps[18]? = some (.pointer (some ⟨bo, 0, none⟩)) ∧ a.tmps[19]? = some (.int .i64 ((i : Nat) : Int)) ∧ Kept Nix w3 w' ∧ WS w' g q ∧
    w'.heap[bo]? = some (.cells (u8s (half (tell q) 16 i)).toArray 24 (0, 0)) ∧ ∃ k, k ≤ i % 4 ∧ a.tmps[21]? = some (.int .i64 ((k : Nat) : Int)) ∧ a.tmps[20]? = some (.int .i64 ((x / 256 ^ k : Nat) : Int))

set_option maxRecDepth 10000 in
set_option maxHeartbeats 4000000 in
theorem rof_any (v : Value) (B : List Nat) (w : World) (hs : Sl w v (u8s B)) (hB : ∀ b ∈ B, b < 256) (hl : B.length < 1000000) :
    Calls Tryd.prog 11 #[v] w fun e w' => e = .returned (.agg (u8s (md B)).toArray) ∧ Kept Nix w w' := by
  have h0 : (w.alloc (.cells #[.int .u8 0, .int .u8 0, .int .u8 0, .int .u8 0, .int .u8 0, .int .u8 0, .int .u8 0, .int .u8 0, .int .u8 0, .int .u8 0, .int .u8 0, .int .u8 0, .int .u8 0, .int .u8 0, .int .u8 0, .int .u8 0] 24)).heap[w.heap.size]? = _ := heap_alloc_new w _
  have k0 : Kept Nix w (w.alloc (.cells #[.int .u8 0, .int .u8 0, .int .u8 0, .int .u8 0, .int .u8 0, .int .u8 0, .int .u8 0, .int .u8 0, .int .u8 0, .int .u8 0, .int .u8 0, .int .u8 0, .int .u8 0, .int .u8 0, .int .u8 0, .int .u8 0] 24)) := (Kept.refl _ w).alloc _
  have HS := Lib.hid hs
  have HB := Lib.hid hB
  have HL := Lib.hid hl
  obtain ⟨ao, cap, rfl⟩ := hs.shape
  clear hs hB hl
  go_enter Tryd.func11, Tryd.ntmps11
  go_upto_region 1 with fail
  generalize w.alloc (.cells #[.int .u8 0, .int .u8 0, .int .u8 0, .int .u8 0, .int .u8 0, .int .u8 0, .int .u8 0, .int .u8 0, .int .u8 0, .int .u8 0, .int .u8 0, .int .u8 0, .int .u8 0, .int .u8 0, .int .u8 0, .int .u8 0] 24) = w1 at *
  have H0 := Lib.hid h0
  have K0 := Lib.hid k0
  have HF := Lib.hid (rfill_any _ B w1 (HS.out.nix k0) HL.out)
  clear h0 k0
  go_wp2_with fail
  refine HF.out.mono ?_
  rintro e w2 ⟨tv, rfl, o2, k2⟩
  have hpos : 0 < (B ++ fil B.length).length := by rw [List.length_append, fil_length]; omega
  obtain ⟨gt, ct, rfl, hct, _, _, _⟩ := owns_pos o2 hpos
  have HCT := Lib.hid hct
  have s2 := sl_of_owns o2
  have HWH : Hid ((B ++ fil B.length).length % 64 = 0) := Lib.hid (by rw [List.length_append]; exact fil_whole B.length)
  have HFL : Hid ((B ++ fil B.length).length ≤ 1000100) := Lib.hid (by have h1 := HL.out; have hz : zer B.length < 64 := Nat.mod_lt _ (by decide); rw [List.length_append, fil_length]; omega)
  have HFB : Hid (∀ b ∈ B ++ fil B.length, b < 256) := Lib.hid (by
    intro b hb
    rcases List.mem_append.1 hb with hb | hb
    · exact HB.out b hb
    · exact fil_lt _ b hb)
  have HMD : Hid (md B = tell (digN ((B ++ fil B.length).length / 64) (B ++ fil B.length))) := Lib.hid rfl
  have HS2 := Lib.hid s2
  have K2 := Lib.hid (nix_trans K0.out k2)
  have H2 := Lib.hid (k2.heap H0.out (fun h => h))
  clear o2 s2 k2 hpos hct
  generalize B ++ fil B.length = F at *
  have HSN := Lib.hid (sines_any w2)
  go_wp2_with fail
  refine HSN.out.mono ?_
  rintro e w3 ⟨rfl, k3, hsin⟩
  have K3 := Lib.hid (nix_trans K2.out k3)
  have HS3 := Lib.hid (HS2.out.nix k3)
  have H3 := Lib.hid (k3.heap H2.out (fun h => h))
  have HSIN := Lib.hid hsin
  clear k3 hsin
  generalize w2.heap.size = gs at *
  have hws : WS (w3.alloc (.cells #[.int .i64 1732584193, .int .i64 4023233417, .int .i64 2562383102, .int .i64 271733878] 3)) w3.heap.size (digN 0 F) := by
    refine ⟨?_, ?_, ?_, ?_⟩ <;> rw [cell_of (heap_alloc_new w3 _)] <;> rfl
  have k34 : Kept Nix w3 (w3.alloc (.cells #[.int .i64 1732584193, .int .i64 4023233417, .int .i64 2562383102, .int .i64 271733878] 3)) := (Kept.refl _ _).alloc _
  have HWS := Lib.hid hws
  have K34 := Lib.hid k34
  clear hws k34
  go_wp2_with fail
  refine wp_loop (RO1 F gt ct gs w w3) (fun a _ => F.length - (intOf (a.tmps.getD 6 undef)).toNat) ?_ ?_
  · exact ⟨rfl, rfl, rfl, rfl, rfl, K34.out, 0, w3.heap.size, Nat.zero_le _, rfl, rfl, HWS.out⟩
  · clear HWS K34
    rintro ⟨tm, df⟩ wa ⟨rfl, hs, h2, h3, h4, ka, n, g, hn, h6, h5, hws⟩
    simp only at hs h2 h3 h4 h5 h6
    obtain ⟨f, hf, hg⟩ := fr_open hs
    have e2 := hg _ _ h2
    have e3 := hg _ _ h3
    have e4 := hg _ _ h4
    have e5 := hg _ _ h5
    have e6 := hg _ _ h6
    simp only [List.range, List.range.loop, List.map] at hf
    rw [e2, e3, e4, e5, e6] at hf
    clear e2 e3 e4 e5 e6 hg hs h2 h3 h4 h5 h6
    subst hf
    have KA := Lib.hid ka
    have HWS := Lib.hid hws
    clear ka
    by_cases hlt : 64 * n < F.length
    · have HLT : Hid (64 * n + 64 ≤ F.length) := Lib.hid (by have := HWH.out; omega)
      have hdl : decide (((64 * n : Nat) : Int) < (F.length : Int)) = true := decide_eq_true (by omega)
      obtain ⟨c0, c1, c2, c3⟩ := hws
      clear hn
      generalize hat : 64 * n = at_ at *
      have HAT := Lib.hid hat
      clear hat
      go_wp2_with fail
      refine wp_loop (RO2 F gt ct gs n g w w3) (fun a _ => 64 - (intOf (a.tmps.getD 11 undef)).toNat) ?_ ?_
      · exact ⟨rfl, rfl, rfl, rfl, rfl, KA.out, by rw [HAT.out]; rfl, rfl, HWS.out, 0, Nat.zero_le _, rfl, rfl, rfl, rfl, rfl⟩
      · clear c0 c1 c2 c3 hdl hlt HWS KA
        rintro ⟨tm, df⟩ wb ⟨rfl, hs, h2, h3, h4, kb, h6, h5, hws, i, hi, h11, h7, h8, h9, h10⟩
        simp only at hs h2 h3 h4 h5 h6 h7 h8 h9 h10 h11
        rw [HAT.out] at h6
        obtain ⟨f2, hf, hg⟩ := fr_open hs
        have e2 := hg _ _ h2
        have e3 := hg _ _ h3
        have e4 := hg _ _ h4
        have e5 := hg _ _ h5
        have e6 := hg _ _ h6
        have e7 := hg _ _ h7
        have e8 := hg _ _ h8
        have e9 := hg _ _ h9
        have e10 := hg _ _ h10
        have e11 := hg _ _ h11
        simp only [List.range, List.range.loop, List.map] at hf
        rw [e2, e3, e4, e5, e6, e7, e8, e9, e10, e11] at hf
        clear e2 e3 e4 e5 e6 e7 e8 e9 e10 e11 hg hs h2 h3 h4 h5 h6 h7 h8 h9 h10 h11
        subst hf
        have KB := Lib.hid kb
        have HWS := Lib.hid hws
        clear kb
        by_cases hlt : i < 64
        · have hi64 : (i : Int) < 64 := by omega
          have HI := Lib.hid hlt
          have hfit := stps_fits (wrds ((F.drop (64 * n)).take 64)) (digN_fits n F) i
          have hn4 : i / 16 < 4 := by omega
          have HML := Lib.hid (mix_lt (i / 16) _ _ _ hfit.2.1 hfit.2.2.1 hfit.2.2.2)
          have HST := Lib.hid (step_any i _ _ _ wb hlt hfit.2.1 hfit.2.2.1 hfit.2.2.2)
          have hix : idx (i / 16) i < 16 := Nat.mod_lt _ (by decide)
          have hsh := trn_lt (i / 16) i hn4
          have HNX : Hid (stps (wrds ((F.drop (64 * n)).take 64)) (i + 1) (digN n F) = ⟨(stps (wrds ((F.drop (64 * n)).take 64)) i (digN n F)).d, ((stps (wrds ((F.drop (64 * n)).take 64)) i (digN n F)).b + rot (((stps (wrds ((F.drop (64 * n)).take 64)) i (digN n F)).a + mix (i / 16) (stps (wrds ((F.drop (64 * n)).take 64)) i (digN n F)).b (stps (wrds ((F.drop (64 * n)).take 64)) i (digN n F)).c (stps (wrds ((F.drop (64 * n)).take 64)) i (digN n F)).d + sine i + (wrds ((F.drop (64 * n)).take 64)).getD (idx (i / 16) i) 0) % 4294967296) (trn (i / 16) i)) % 4294967296, (stps (wrds ((F.drop (64 * n)).take 64)) i (digN n F)).b, (stps (wrds ((F.drop (64 * n)).take 64)) i (digN n F)).c⟩) := Lib.hid rfl
          have HWT0 := Lib.hid (wrd_text F n (idx (i / 16) i) hix)
          have HFIT := Lib.hid hfit
          have HSL := Lib.hid (sine_lt i)
          have HIX := Lib.hid hix
          have HSH := Lib.hid hsh
          have hsn : ∀ wx, Kept Nix w3 wx → wx.cell? ⟨gs, i, none⟩ = some (.int .i64 ((sine i : Nat) : Int)) := fun wx kx => cell_nix (HSIN.out i hlt) kx
          have HSN := Lib.hid hsn
          clear hlt hi hfit hn4 hix hsh hsn hws
          unfold StepPost at HST
          generalize hX : wrds ((F.drop (64 * n)).take 64) = X at *
          generalize hr : stps X i (digN n F) = r at *
          have HR := Lib.hid hr
          clear hr
          generalize mix (i / 16) r.b r.c r.d = mx at *
          go_wp2_with fail
          refine HST.out.mono ?_
          rintro e wc ⟨rfl, kc⟩
          have HTB := Lib.hid (HS3.out.nix (nix_trans KB.out kc))
          have hb4 : ∀ j, j < 4 → wc.cell? ⟨gt, at_ + 4 * idx (i / 16) i + j, none⟩ = some (.int .u8 ((F.getD (at_ + 4 * idx (i / 16) i + j) 0 : Nat) : Int)) := by
            intro j hj
            obtain ⟨b', o', c', e, _, _, hh⟩ := HTB.out.cells (by have := HLT.out; omega)
            simp only [Value.slice.injEq, Option.some.injEq, Addr.mk.injEq, and_true] at e
            obtain ⟨⟨rfl, rfl⟩, -, rfl⟩ := e
            have := hh (at_ + 4 * idx (i / 16) i + j) (by have h1 := HLT.out; have h2 := HIX.out; omega)
            rwa [Nat.zero_add] at this
          have hc0 := hb4 0 (by decide)
          have hc1 := hb4 1 (by decide)
          have hc2 := hb4 2 (by decide)
          have hc3 := hb4 3 (by decide)
          rw [Nat.add_zero] at hc0
          have HX0 := Lib.hid (getD_lt HFB.out (at_ + 4 * idx (i / 16) i))
          have HX1 := Lib.hid (getD_lt HFB.out (at_ + 4 * idx (i / 16) i + 1))
          have HX2 := Lib.hid (getD_lt HFB.out (at_ + 4 * idx (i / 16) i + 2))
          have HX3 := Lib.hid (getD_lt HFB.out (at_ + 4 * idx (i / 16) i + 3))
          have HLO : Hid (at_ + 4 * idx (i / 16) i + 4 ≤ F.length) := Lib.hid (by have h1 := HLT.out; have h2 := HIX.out; omega)
          have hp1 := fun wx => run_part wx gt 0 F.length ct (at_ + 4 * idx (i / 16) i) HLO.out HCT.out
          have hp2 := fun wx => run_part_at wx gt 0 F.length ct (at_ + 4 * idx (i / 16) i) HLO.out HCT.out
          rw [Nat.zero_add] at hp1 hp2
          have g1 : (4 : Int) * ((idx (i / 16) i : Nat) : Int) = ((4 * idx (i / 16) i : Nat) : Int) := by omega
          have g2 : (at_ : Int) + ((4 * idx (i / 16) i : Nat) : Int) = ((at_ + 4 * idx (i / 16) i : Nat) : Int) := by omega
          have g3 : ((at_ + 4 * idx (i / 16) i : Nat) : Int) + 4 = ((at_ + 4 * idx (i / 16) i + 4 : Nat) : Int) := by omega
          have q1 : wrap64 ((4 * idx (i / 16) i : Nat) : Int) = ((4 * idx (i / 16) i : Nat) : Int) := wrap_nat _ (by have h1 := HLO.out; have h2 := HFL.out; omega)
          have q2 : wrap64 ((at_ + 4 * idx (i / 16) i : Nat) : Int) = ((at_ + 4 * idx (i / 16) i : Nat) : Int) := wrap_nat _ (by have h1 := HLO.out; have h2 := HFL.out; omega)
          have q3 : wrap64 ((at_ + 4 * idx (i / 16) i + 4 : Nat) : Int) = ((at_ + 4 * idx (i / 16) i + 4 : Nat) : Int) := wrap_nat _ (by have h1 := HLO.out; have h2 := HFL.out; omega)
          have HWT : Hid (X.getD (idx (i / 16) i) 0 = F.getD (at_ + 4 * idx (i / 16) i) 0 + 256 * F.getD (at_ + 4 * idx (i / 16) i + 1) 0 + 65536 * F.getD (at_ + 4 * idx (i / 16) i + 2) 0 + 16777216 * F.getD (at_ + 4 * idx (i / 16) i + 3) 0) := Lib.hid (by rw [← HAT.out]; exact HWT0.out)
          clear HWT0
          have KC := Lib.hid (nix_trans KB.out kc)
          have HWSC := Lib.hid (HWS.out.nix kc)
          clear hb4 kc
          generalize F.getD (at_ + 4 * idx (i / 16) i) 0 = x0 at *
          generalize F.getD (at_ + 4 * idx (i / 16) i + 1) 0 = x1 at *
          generalize F.getD (at_ + 4 * idx (i / 16) i + 2) 0 = x2 at *
          generalize F.getD (at_ + 4 * idx (i / 16) i + 3) 0 = x3 at *
          generalize hlo4 : at_ + 4 * idx (i / 16) i + 4 = lo4 at *
          generalize hlo : at_ + 4 * idx (i / 16) i = lo at *
          clear hlo4 hlo
          generalize 4 * idx (i / 16) i = l4 at *
          generalize hixx : idx (i / 16) i = ix at *
          generalize hshh : trn (i / 16) i = sh at *
          go_upto_region 16 with fail
          clear hp1 hp2 g1 g2 g3 q1 q2 q3
          go_quiet (fail)
          have E16 : wrap64 (wrap64 (wrap64 (wrap64 (x0 : Int) + wrap64 (256 * wrap64 (x1 : Int))) + wrap64 (65536 * wrap64 (x2 : Int))) + wrap64 (16777216 * wrap64 (x3 : Int))) = ((X.getD ix 0 : Nat) : Int) := by
            rw [HWT.out]
            exact word_sum x0 x1 x2 x3 HX0.out HX1.out HX2.out HX3.out
          have HXX : Hid (X.getD ix 0 < 4294967296) := Lib.hid (by rw [HWT.out]; exact xx_lt x0 x1 x2 x3 HX0.out HX1.out HX2.out HX3.out)
          rw [E16]
          have KD : Hid (Kept Nix w3 (wc.drewN nq)) := Lib.hid (KC.out.drewN nq)
          have HWSD : Hid (WS (wc.drewN nq) g (digN n F)) := Lib.hid (HWSC.out.nix ((Kept.refl _ wc).drewN nq))
          have hsn := HSN.out _ KD.out
          clear E16 hc0 hc1 hc2 hc3 HWT
          generalize wc.drewN nq = wd at *
          generalize X.getD ix 0 = xx at *
          generalize sine i = sn at *
          have hSl : (r.a + mx + sn + xx) % 4294967296 < 4294967296 := Nat.mod_lt _ (by decide)
          have HW1 := Lib.hid (word_any (r.a + mx + sn + xx) wd)
          have HTN := Lib.hid (turn_any ((r.a + mx + sn + xx) % 4294967296) sh wd hSl HSH.out.2)
          obtain ⟨⟨g1, g2, g3, g4⟩, q1, q2, q3, q4⟩ := step_sums r.a mx sn xx r.b (rot ((r.a + mx + sn + xx) % 4294967296) sh) HFIT.out.1 HML.out HSL.out HXX.out HFIT.out.2.1 (rot_lt _ sh (Nat.le_of_lt HSH.out.2) hSl)
          have HW2 := Lib.hid (word_any (r.b + rot ((r.a + mx + sn + xx) % 4294967296) sh) wd)
          clear hSl
          generalize hs4 : (r.b + rot ((r.a + mx + sn + xx) % 4294967296) sh) % 4294967296 = s5 at *
          generalize r.b + rot ((r.a + mx + sn + xx) % 4294967296) sh = s4 at *
          generalize rot ((r.a + mx + sn + xx) % 4294967296) sh = ro at *
          generalize (r.a + mx + sn + xx) % 4294967296 = S at *
          generalize r.a + mx + sn + xx = s3 at *
          generalize r.a + mx + sn = s2 at *
          generalize r.a + mx = s1 at *
          clear hs4
          go_wp2_with fail
          refine HW1.out.mono ?_
          rintro e wz ⟨rfl, rfl⟩
          go_wp2_with fail
          refine HTN.out.mono ?_
          rintro e wz ⟨rfl, rfl⟩
          go_wp2_with fail
          refine HW2.out.mono ?_
          rintro e wz ⟨rfl, rfl⟩
          go_wp2_with fail
          refine ⟨⟨rfl, rfl, rfl, rfl, rfl, KD.out, by rw [HAT.out]; rfl, rfl, HWSD.out, i + 1, HI.out, rfl, ?_, ?_, ?_, ?_⟩, ?_⟩
          · rw [hX, HNX.out]; rfl
          · rw [hX, HNX.out]; rfl
          · rw [hX, HNX.out]; rfl
          · rw [hX, HNX.out]; rfl
          · have := HI.out
            show 64 - ((i : Int) + 1).toNat < 64 - (i : Int).toNat
            omega
        · have e : i = 64 := by omega
          subst e
          obtain ⟨c0, c1, c2, c3⟩ := hws
          have HBK : Hid (digN (n + 1) F = add (digN n F) (stps (wrds ((F.drop (64 * n)).take 64)) 64 (digN n F))) := Lib.hid rfl
          have hf1 := digN_fits n F
          have hf2 := stps_fits (wrds ((F.drop (64 * n)).take 64)) (digN_fits n F) 64
          have HNP := Lib.hid (np_at n at_ F.length HLT.out HAT.out HFL.out)
          generalize stps (wrds ((F.drop (64 * n)).take 64)) 64 (digN n F) = r at *
          generalize hqq : digN n F = q at *
          have HQQ := Lib.hid hqq
          clear hqq hlt hi
          obtain ⟨s0, q0, p0⟩ := two_sum q.a r.a hf1.1 hf2.1
          obtain ⟨s1, q1, p1⟩ := two_sum q.b r.b hf1.2.1 hf2.2.1
          obtain ⟨s2, q2, p2⟩ := two_sum q.c r.c hf1.2.2.1 hf2.2.2.1
          obtain ⟨s3, q3, p3⟩ := two_sum q.d r.d hf1.2.2.2 hf2.2.2.2
          have W0 := Lib.hid (fun wx => word_any (q.a + r.a) wx)
          have W1 := Lib.hid (fun wx => word_any (q.b + r.b) wx)
          have W2 := Lib.hid (fun wx => word_any (q.c + r.c) wx)
          have W3 := Lib.hid (fun wx => word_any (q.d + r.d) wx)
          clear hf1 hf2
          have HAD : Hid (add q r = ⟨(q.a + r.a) % 4294967296, (q.b + r.b) % 4294967296, (q.c + r.c) % 4294967296, (q.d + r.d) % 4294967296⟩) := Lib.hid rfl
          generalize (q.a + r.a) % 4294967296 = m0 at *
          generalize (q.b + r.b) % 4294967296 = m1 at *
          generalize (q.c + r.c) % 4294967296 = m2 at *
          generalize (q.d + r.d) % 4294967296 = m3 at *
          generalize q.a + r.a = t0 at *
          generalize q.b + r.b = t1 at *
          generalize q.c + r.c = t2 at *
          generalize q.d + r.d = t3 at *
          go_upto_region 22 with fail
          have HCC : Hid (∀ wx, Kept Nix wb wx → wx.cell? ⟨g, 0, none⟩ = some (.int .i64 (q.a : Int)) ∧ wx.cell? ⟨g, 1, none⟩ = some (.int .i64 (q.b : Int)) ∧ wx.cell? ⟨g, 2, none⟩ = some (.int .i64 (q.c : Int)) ∧ wx.cell? ⟨g, 3, none⟩ = some (.int .i64 (q.d : Int))) :=
            Lib.hid (fun wx kx => ⟨cell_nix c0 kx, cell_nix c1 kx, cell_nix c2 kx, cell_nix c3 kx⟩)
          clear c0 c1 c2 c3
          go_region_held3 (fun w' => (w'.cell? ⟨g, 0, none⟩ = some (.int .i64 (q.a : Int)) ∧ w'.cell? ⟨g, 1, none⟩ = some (.int .i64 (q.b : Int)) ∧ w'.cell? ⟨g, 2, none⟩ = some (.int .i64 (q.c : Int)) ∧ w'.cell? ⟨g, 3, none⟩ = some (.int .i64 (q.d : Int))))
            (first | assumption | exact HCC.out _ (Kept.refl _ _).drew | exact HCC.out _ ((Kept.refl _ _).drew.alloc _))
            (first
              | (go_at_call 19; refine (W0.out _).mono ?_; rintro e wz ⟨rfl, rfl⟩)
              | (go_at_call 19; refine (W1.out _).mono ?_; rintro e wz ⟨rfl, rfl⟩)
              | (go_at_call 19; refine (W2.out _).mono ?_; rintro e wz ⟨rfl, rfl⟩)
              | (go_at_call 19; refine (W3.out _).mono ?_; rintro e wz ⟨rfl, rfl⟩))
          have KE : Hid (Kept Nix w3 (wb.alloc (.cells #[.int .i64 (m0 : Int), .int .i64 (m1 : Int), .int .i64 (m2 : Int), .int .i64 (m3 : Int)] 3)).drew) := Lib.hid (KB.out.alloc _).drew
          have HWE : Hid (WS (wb.alloc (.cells #[.int .i64 (m0 : Int), .int .i64 (m1 : Int), .int .i64 (m2 : Int), .int .i64 (m3 : Int)] 3)).drew wb.heap.size (digN (n + 1) F)) := Lib.hid (by
            rw [HBK.out, HAD.out]
            exact ws_new wb m0 m1 m2 m3)
          generalize (wb.alloc (.cells #[.int .i64 (m0 : Int), .int .i64 (m1 : Int), .int .i64 (m2 : Int), .int .i64 (m3 : Int)] 3)).drew = we at *
          clear s0 s1 s2 s3 q0 q1 q2 q3 p0 p1 p2 p3
          obtain ⟨h64, hml⟩ := next_at n at_ HAT.out
          have h64w := wrap_nat (64 * (n + 1)) (small_at _ (Nat.le_trans HNP.out.2 HFL.out))
          have HML := Lib.hid hml
          clear hml
          generalize hm1 : 64 * (n + 1) = at1 at *
          have HM1 := Lib.hid hm1
          clear hm1
          go_wp2_with fail
          rw [h64w]
          refine ⟨⟨rfl, rfl, rfl, rfl, rfl, KE.out, n + 1, wb.heap.size, by rw [HM1.out]; exact HNP.out.2, ?_, rfl, HWE.out⟩, ?_⟩
          · rw [HM1.out]; rfl
          · have hme := meas_at F.length at1 at_ HML.out HNP.out.2
            exact hme
    · have hnF : n = F.length / 64 := by have := HWH.out; omega
      have hdf : decide (((64 * n : Nat) : Int) < (F.length : Int)) = false := decide_eq_false (by omega)
      have hlf : decide (64 * n < F.length) = false := decide_eq_false (by omega)
      have HTL : Hid (md B = tell (digN n F)) := Lib.hid (by rw [HMD.out, hnF])
      have HDF := Lib.hid (digN_fits n F)
      clear hlt hn hnF hws
      generalize 64 * n = at_ at *
      generalize digN n F = q at *
      go_upto_region 23 with fail
      go_upto_region 24 with (first | (refine wpList_store_row rfl 24 _ _ rfl _ _ rfl rfl 24 _ (heap_alloc_new wa _) size_sum rfl rfl ?_))
      have hh : (wa.alloc (.cells #[.int .u8 0, .int .u8 0, .int .u8 0, .int .u8 0, .int .u8 0, .int .u8 0, .int .u8 0, .int .u8 0, .int .u8 0, .int .u8 0, .int .u8 0, .int .u8 0, .int .u8 0, .int .u8 0, .int .u8 0, .int .u8 0] 24)).heap[wa.heap.size]? = some (.cells (u8s (half (tell q) 16 0)).toArray 24 (0, 0)) := heap_alloc_new wa _
      have kk : Kept Nix wa (wa.alloc (.cells #[.int .u8 0, .int .u8 0, .int .u8 0, .int .u8 0, .int .u8 0, .int .u8 0, .int .u8 0, .int .u8 0, .int .u8 0, .int .u8 0, .int .u8 0, .int .u8 0, .int .u8 0, .int .u8 0, .int .u8 0, .int .u8 0] 24)) := (Kept.refl _ _).alloc _
      have HHH := Lib.hid hh
      have KF := Lib.hid (nix_trans KA.out kk)
      have HWF := Lib.hid (HWS.out.nix kk)
      have HGB : Hid (g < wa.heap.size) := Lib.hid (World.block_lt_of_cell? wa _ HWS.out.1)
      have HBO : Hid (w.heap.size < wa.heap.size ∧ w3.heap.size ≤ wa.heap.size) := Lib.hid ⟨Nat.lt_of_lt_of_le (lt_of_heap H3.out) KA.out.size, KA.out.size⟩
      clear hh kk hdf hlf HWS KA
      generalize wa.alloc (.cells #[.int .u8 0, .int .u8 0, .int .u8 0, .int .u8 0, .int .u8 0, .int .u8 0, .int .u8 0, .int .u8 0, .int .u8 0, .int .u8 0, .int .u8 0, .int .u8 0, .int .u8 0, .int .u8 0, .int .u8 0, .int .u8 0] 24) = wf at *
      generalize wa.heap.size = bo at *
      go_wp2_with fail
      refine wp_loop (RO3 q g bo w w3) (fun a _ => 16 - (intOf (a.tmps.getD 19 undef)).toNat) ?_ ?_
      · exact ⟨rfl, rfl, rfl, rfl, rfl, KF.out, HWF.out, 0, Nat.zero_le _, rfl, HHH.out⟩
      · clear HHH KF HWF
        rintro ⟨tm, df⟩ wg ⟨rfl, hs, h2, h5, h18, kg, hwg, i, hi, h19, hbo⟩
        simp only at hs h2 h5 h18 h19
        obtain ⟨f3, hf, hg⟩ := fr_open hs
        have e2 := hg _ _ h2
        have e5 := hg _ _ h5
        have e18 := hg _ _ h18
        have e19 := hg _ _ h19
        simp only [List.range, List.range.loop, List.map] at hf
        rw [e2, e5, e18, e19] at hf
        clear e2 e5 e18 e19 hg hs h2 h5 h18 h19
        subst hf
        have KG := Lib.hid kg
        have HWG := Lib.hid hwg
        have HBG := Lib.hid hbo
        by_cases hlt : i < 16
        · have hi16 : (i : Int) < 16 := by omega
          have HI := Lib.hid hlt
          have hj : (i : Int) / 4 = ((i / 4 : Nat) : Int) := by omega
          have hj4 : i / 4 < 4 := by omega
          have hjc := hwg.at (i / 4) hj4
          have HXL := Lib.hid (ws_lt HDF.out (i / 4))
          have HTB := Lib.hid (tell_by q i hlt)
          have hj4' : ((i / 4 : Nat) : Int) < 4 := by omega
          clear hlt hi kg hwg hbo
          generalize (ws q).getD (i / 4) 0 = x at *
          generalize i / 4 = j at *
          go_wp2_with fail
          refine wp_loop (RO4 q g bo i x w w3) (fun a _ => i % 4 - (intOf (a.tmps.getD 21 undef)).toNat) ?_ ?_
          · exact ⟨rfl, rfl, rfl, rfl, rfl, rfl, KG.out, HWG.out, HBG.out, 0, Nat.zero_le _, rfl, by rw [Nat.pow_zero, Nat.div_one]; rfl⟩
          · clear hj hj4 hjc hj4' KG HWG HBG
            rintro ⟨tm, df⟩ wh ⟨rfl, hs, h2, h5, h18, h19, kh, hwh, hbh, k, hk, h21, h20⟩
            simp only at hs h2 h5 h18 h19 h20 h21
            obtain ⟨f4, hf, hg⟩ := fr_open hs
            have e2 := hg _ _ h2
            have e5 := hg _ _ h5
            have e18 := hg _ _ h18
            have e19 := hg _ _ h19
            have e20 := hg _ _ h20
            have e21 := hg _ _ h21
            simp only [List.range, List.range.loop, List.map] at hf
            rw [e2, e5, e18, e19, e20, e21] at hf
            clear e2 e5 e18 e19 e20 e21 hg hs h2 h5 h18 h19 h20 h21
            subst hf
            have KH := Lib.hid kh
            have HWH2 := Lib.hid hwh
            have HBH := Lib.hid hbh
            have hm4 : (i : Int) % 4 = ((i % 4 : Nat) : Int) := by omega
            by_cases hlt : k < i % 4
            · have hkd : decide ((k : Int) < ((i % 4 : Nat) : Int)) = true := decide_eq_true (by omega)
              have hkd2 : decide (k < i % 4) = true := decide_eq_true hlt
              have HK := Lib.hid hlt
              have HQ : Hid (x / 256 ^ (k + 1) = x / 256 ^ k / 256) := Lib.hid (by rw [Nat.pow_succ, Nat.div_div_eq_div_mul])
              have hk4 : (k : Int) < 4 := by omega
              have HXK : Hid (x / 256 ^ k < 4294967296) := Lib.hid (Nat.lt_of_le_of_lt (Nat.div_le_self _ _) HXL.out)
              have HM : Hid (i % 4 ≤ 3) := Lib.hid (by omega)
              clear hlt hk kh hwh hbh
              generalize x / 256 ^ k = y at *
              have hy : (y : Int) / 256 = ((y / 256 : Nat) : Int) := by omega
              have HYW := Lib.hid (wrap_nat (y / 256) (by have := HXK.out; omega))
              generalize y / 256 = y2 at *
              generalize hmm : i % 4 = m at *
              go_wp2_with fail
              refine ⟨⟨rfl, rfl, rfl, rfl, rfl, rfl, KH.out, HWH2.out, HBH.out, k + 1, ?_, rfl, ?_⟩, ?_⟩
              · have := HK.out; omega
              · rw [HQ.out]
                first | rfl | exact congrArg (fun z => some (Value.int .i64 z)) HYW.out
              · have := HK.out
                first
                  | (show i % 4 - ((k : Int) + 1).toNat < i % 4 - (k : Int).toNat; omega)
                  | (show m - ((k : Int) + 1).toNat < m - (k : Int).toNat; omega)
            · have e : k = i % 4 := by omega
              subst e
              have hkd2 : decide (i % 4 < i % 4) = false := by simp
              have hl : i < (u8s (half (tell q) 16 i)).length := by rw [u8s_length, half_length _ _ _ (tell_length q) (Nat.le_of_lt HI.out)]; exact HI.out
              have hc3 : wh.cell? ⟨bo, i, none⟩ = some (u8s (half (tell q) 16 i))[i] := by rw [cell_of hbh, List.getElem?_toArray]; exact List.getElem?_eq_getElem hl
              have hz : wh.frozen? ⟨bo, i, none⟩ = false := frozen_of hbh
              have HV := Lib.hid HTB.out
              clear hlt hk kh hwh hbh
              generalize x / 256 ^ (i % 4) = y at *
              generalize (u8s (half (tell q) 16 i))[i] = old at *
              clear hl
              have hy : (y : Int) % 256 = ((y % 256 : Nat) : Int) := by omega
              have hyy : ((y % 256 : Nat) : Int) % 256 = ((y % 256 : Nat) : Int) := by omega
              rw [HV.out] at hy hyy
              generalize hm : i % 4 = m at *
              generalize hz9 : (tell q).getD i 0 = z9 at *
              have HZ9 := Lib.hid hz9
              clear hz9
              go_wp2_with fail
              refine ⟨⟨rfl, rfl, rfl, rfl, rfl, KH.out.setCell (.inr ?_) _, ?_, i + 1, HI.out, rfl, ?_⟩, ?_⟩
              · exact HBO.out.2
              · exact HWH2.out.other ((Kept.refl _ _).setCell (.inl (show One bo bo from rfl)) _) (by have := HGB.out; omega)
              · rw [heap_set HBH.out, List.setIfInBounds_toArray, u8s_set, ← HZ9.out, half_step _ _ _ (tell_length q) HI.out]
              · have := HI.out
                show 16 - ((i : Int) + 1).toNat < 16 - (i : Int).toNat
                omega
        · have e : i = 16 := by omega
          subst e
          rw [half_all _ _ (tell_length q)] at hbo
          have zt : (u8s (tell q)).toArray.size = 16 := rfl
          have ZS := Lib.hid (size_sum.trans (congrArg some zt.symm))
          have ZT := Lib.hid zt
          have Z1 : Hid ((u8s (tell q)).toArray.all (·.oneCell') = true) := Lib.hid (all_one (u8s_one _))
          have HBG := Lib.hid hbo
          have HRS := Lib.hid (kg.heap H3.out (fun h => h))
          clear hlt hi kg hwg hbo zt
          generalize hM : (u8s (tell q)).toArray = M at *
          have HMM := Lib.hid hM
          clear hM
          go_wp2_with (first | (refine wpList_load_row rfl 24 _ rfl bo rfl 24 M _ _ HBG.out Tryd.underlying24 rfl ZS.out ?_) | (refine wpList_store_row rfl 24 _ _ rfl _ _ rfl rfl 24 _ HRS.out ZS.out (by rw [ZT.out]; rfl) Z1.out ?_))
          refine ret_row (by rfl) w.heap.size 24 M (0, 0) _ rfl (heap_row M HRS.out) Tryd.underlying24 rfl ZS.out rfl ⟨by rw [HTL.out, HMM.out], (nix_trans K3.out KG.out).setRow (.inr (Nat.le_refl _)) _⟩

end Go.Proofs.YtfcidddpoofjgaaDoor
