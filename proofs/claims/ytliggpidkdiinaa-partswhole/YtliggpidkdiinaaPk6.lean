/- Plans in memory: a slice of parts, wherever it lies; a plan as a whole, as a result beside numbers, put into a variable. Package parts: sums, and the best way of one part of them. Package parts: sums put together two by two. Package parts: the plan of sums. -/
import Derived.Test.YtliggpidkdiinaaPk4
import Derived.Test.YtliggpidkdiinaaPk5

namespace Go.Proofs.Ytliggpidkdiinaa
open Go.RowKit Bx

/-- A slice of parts that reads as this list. -/
def Pts (w : World) (v : Value) (ps : List (Int × Bool)) : Prop :=
  ∃ (ao : Option Addr) (cap : Nat), v = .slice ao ps.length cap ∧ ps.length ≤ cap ∧ cap ≤ maxLen ∧
    (0 < ps.length → ∃ b off, ao = some ⟨b, off, none⟩ ∧ b < w.heap.size ∧ ∀ j, j < ps.length → w.cell? ⟨b, off + j * 2, none⟩ = some (.int .i64 (ps.getD j (0, false)).1) ∧ w.cell? ⟨b, off + j * 2 + 1, none⟩ = some (.bool (ps.getD j (0, false)).2))

theorem Pts.nix {w w' : World} {v : Value} {ps : List (Int × Bool)} (h : Pts w v ps) (hk : Kept Nix w w') : Pts w' v ps := by
  obtain ⟨ao, cap, e, h1, h2, h3⟩ := h
  refine ⟨ao, cap, e, h1, h2, fun h0 => ?_⟩
  obtain ⟨b, off, e2, hb, hc⟩ := h3 h0
  have hbl := hk.block b hb id
  exact ⟨b, off, e2, Nat.lt_of_lt_of_le hb hk.size, fun j hj => ⟨(World.cell?_of_block hbl).trans (hc j hj).1, (World.cell?_of_block hbl).trans (hc j hj).2⟩⟩

theorem pts_of_owns {w : World} {base : Nat} {v : Value} {ps : List (Int × Bool)} (h : w.ownsRow base 39 2 v ps.length (pcs ps)) : Pts w v ps := by
  by_cases h0 : ps.length = 0
  · rcases h.2 with ⟨rfl, _⟩ | ⟨g, cap, cur, rfl, hb, hg, hc, hm, -⟩
    · exact ⟨none, 0, by rw [h0], by omega, by simp [maxLen], fun h => by omega⟩
    · exact ⟨_, cap, rfl, hc, hm, fun h => by omega⟩
  · obtain ⟨b, cap, rfl, hc1, hcm, hbb, -⟩ := owns_pos h (by omega)
    have hlt := (h.lt b rfl).2
    exact ⟨_, cap, rfl, hc1, hcm, fun _ => ⟨b, 0, rfl, hlt, fun j hj => by rw [Nat.zero_add]; exact part_in h j hj w (Kept.refl _ _)⟩⟩

theorem Pts.len {w : World} {v : Value} {ps : List (Int × Bool)} (h : Pts w v ps) : ∃ ao cap, v = .slice ao ps.length cap ∧ Pts w (.slice ao ps.length cap) ps := by
  obtain ⟨ao, cap, rfl, h1⟩ := h
  exact ⟨ao, cap, rfl, ao, cap, rfl, h1⟩

theorem Pts.at {w : World} {ao : Option Addr} {n cap : Nat} {ps : List (Int × Bool)} (h : Pts w (.slice ao n cap) ps) (i : Nat) (hi : i < ps.length) : ∃ b off, ao = some ⟨b, off, none⟩ ∧ ∀ w', Kept Nix w w' → w'.cell? ⟨b, off + i * 2, none⟩ = some (.int .i64 (ps.getD i (0, false)).1) ∧ w'.cell? ⟨b, off + i * 2 + 1, none⟩ = some (.bool (ps.getD i (0, false)).2) := by
  obtain ⟨ao', cap', e, h1, h2, h3⟩ := h
  simp only [Value.slice.injEq] at e
  obtain ⟨rfl, rfl, rfl⟩ := e
  obtain ⟨b, off, e2, hb, hc⟩ := h3 (by omega)
  refine ⟨b, off, e2, fun w' hk => ?_⟩
  have hbl := hk.block b hb id
  exact ⟨(World.cell?_of_block hbl).trans (hc i hi).1, (World.cell?_of_block hbl).trans (hc i hi).2⟩

theorem size_plan : (Try.prog.info? 26).map (·.size) = some 3 := by kernel_rfl
theorem one_plan (wd : Bool) (o : Int) (ao : Option Addr) (n c : Nat) : (#[.bool wd, .int .i64 o, .slice ao n c] : Array Value).all (·.oneCell') = true := by simp [Value.oneCell']

theorem put_st (w : World) (cs cs' : Array Value) (t : TypeId) : ∀ w3, w3 = (w.alloc (.cells cs t)).setRow w.heap.size cs' → Kept Nix w w3 ∧ ∀ w', Kept Nix w3 w' → w'.heap[w.heap.size]? = some (.cells cs' t (0, 0)) := by
  rintro w3 rfl
  exact ⟨((Kept.refl _ w).alloc _).setRow (.inr (Nat.le_refl _)) _, fun w' hk => hk.heap (heap_row cs' (heap_alloc_new w (.cells cs t))) id⟩

theorem cells_part {w : World} {g : Nat} {k : Int} {r : Bool} {t : TypeId} (h : w.heap[g]? = some (.cells #[.int .i64 k, .bool r] t (0, 0))) : w.cell? ⟨g, 0, none⟩ = some (.int .i64 k) ∧ w.cell? ⟨g, 1, none⟩ = some (.bool r) :=
  ⟨by rw [cell_of h]; rfl, by rw [cell_of h]; rfl⟩

theorem cells_three {w : World} {g : Nat} {x y z : Value} {t : TypeId} (h : w.heap[g]? = some (.cells #[x, y, z] t (0, 0))) : w.cell? ⟨g, 0, none⟩ = some x ∧ w.cell? ⟨g, 1, none⟩ = some y ∧ w.cell? ⟨g, 2, none⟩ = some z :=
  ⟨by rw [cell_of h]; rfl, by rw [cell_of h]; rfl, by rw [cell_of h]; rfl⟩

/-- The rows of a slice of slices, in any world that kept it. -/
theorem Chs.row {w : World} {ao : Option Addr} {n cap : Nat} {L : List (List Int)} (h : Chs w (.slice ao n cap) L) (i : Nat) (hi : i < L.length) : ∃ b off, ao = some ⟨b, off, none⟩ ∧ ∃ ro rc, ∀ w', Kept Nix w w' → w'.cell? ⟨b, off + i, none⟩ = some (.slice ro (L.getD i []).length rc) ∧ Sl w' (.slice ro (L.getD i []).length rc) (ivs (L.getD i [])) := by
  obtain ⟨b, off, rfl, hb, A, C, hh⟩ := h.at (by omega)
  obtain ⟨h1, h2⟩ := hh i hi
  exact ⟨b, off, rfl, A i, C i, fun w' hk => ⟨(World.cell?_of_block (hk.block b hb id)).trans h1, h2.nix hk⟩⟩

/-- A result of two: a part that lives in memory, and a number. -/
theorem results_part1 {fn : Func} {p u : Tmp} (h : fn.results = #[.cell p 39, .tmp u]) (tmps : Array Value) (w : World) (g : Nat) (cs : Array Value) (x : Int)
    (hp : tmps.getD p undef = .pointer (some ⟨g, 0, none⟩)) (hg : w.heap[g]? = some (.cells cs 39 (0, 0))) (hc : cs.size = 2) (hu : tmps.getD u undef = .int .i64 x) :
    (results fn tmps).run Try.prog w = .ok (.tuple #[.agg cs, .int .i64 x]) w := by
  have h1 := run_loadVar_row (P := Try.prog) w g 39 39 cs (0, 0) _ hg Try.underlying39 rfl (by rw [hc]; exact size_part)
  rw [results_cell_tmp h, hp, hu]
  simp [asAddr, h1, Result.andThen]

theorem results_plan1 {fn : Func} {p u : Tmp} (h : fn.results = #[.cell p 26, .tmp u]) (tmps : Array Value) (w : World) (g : Nat) (cs : Array Value) (x : Int)
    (hp : tmps.getD p undef = .pointer (some ⟨g, 0, none⟩)) (hg : w.heap[g]? = some (.cells cs 26 (0, 0))) (hc : cs.size = 3) (hu : tmps.getD u undef = .int .i64 x) :
    (results fn tmps).run Try.prog w = .ok (.tuple #[.agg cs, .int .i64 x]) w := by
  have h1 := run_loadVar_row (P := Try.prog) w g 26 26 cs (0, 0) _ hg Try.underlying26 rfl (by rw [hc]; exact size_plan)
  rw [results_cell_tmp h, hp, hu]
  simp [asAddr, h1, Result.andThen]

theorem results_plan2 {fn : Func} {p u v : Tmp} (h : fn.results = #[.cell p 26, .tmp u, .tmp v]) (tmps : Array Value) (w : World) (g : Nat) (cs : Array Value) (x y : Int)
    (hp : tmps.getD p undef = .pointer (some ⟨g, 0, none⟩)) (hg : w.heap[g]? = some (.cells cs 26 (0, 0))) (hc : cs.size = 3) (hu : tmps.getD u undef = .int .i64 x) (hv : tmps.getD v undef = .int .i64 y) :
    (results fn tmps).run Try.prog w = .ok (.tuple #[.agg cs, .int .i64 x, .int .i64 y]) w := by
  have h1 := run_loadVar_row (P := Try.prog) w g 26 26 cs (0, 0) _ hg Try.underlying26 rfl (by rw [hc]; exact size_plan)
  simp only [Array.getD_eq_getD_getElem?] at hp hu hv
  simp only [results, h]
  simp [hp, asAddr, h1, hu, hv, Result.andThen]

theorem elem_rows : Try.prog.elem 48 = 22 := by kernel_rfl

theorem size_intsw (w : World) : (sizeOf 22).run Try.prog w = .ok 1 w := by
  obtain ⟨i, hi, hz, hsize, hby⟩ := info_parts info_ints
  simp [sizeOf, typeInfo, hi, hsize]

/-- A slice of rows up to k. -/
theorem run_upto_rw (w : World) (ao : Option Addr) (len cap k : Nat) (h : k ≤ cap) : (Instr.slice 48 (.slice ao len cap) none (some (.int .i64 (k : Int))) none).run Try.prog w = .ok (.slice ao k cap) w := by
  have ht : Try.prog.underlying 48 = some (.slice (Try.prog.elem 48)) := by rw [elem_rows]; exact Try.underlying48
  rw [run_slice_h w 48 ao len cap ht .i64 (k : Int) (by omega) (by omega), elem_rows, size_intsw]
  cases ao with
  | none => simp [sliced]
  | some a => simp [sliced, Addr.add]

end Go.Proofs.Ytliggpidkdiinaa

namespace Go.Proofs.Ytliggpidkdiinaa
open Go.RowKit Bx

/-- Three slices that are what the parts come to. -/
structure Sums (w : World) (v1 v2 v3 : Value) (P : List (List Int)) (K : Nat) : Prop where
  many : Sl w v1 (ivs (ni (P.map List.length)))
  widths : Sl w v2 (ivs (ni (P.map cw)))
  bits : Chs w v3 ((rws P K).map ni)

theorem Sums.nix {w w' : World} {v1 v2 v3 : Value} {P : List (List Int)} {K : Nat} (h : Sums w v1 v2 v3 P K) (hk : Kept Nix w w') : Sums w' v1 v2 v3 P K := ⟨h.many.nix hk, h.widths.nix hk, h.bits.nix hk⟩

/-- Parts of which all is known that the sums need. -/
structure Fine (P : List (List Int)) : Prop where
  nr : ∀ Q ∈ P, nrs Q = true
  len : P.length ≤ 32768
  all : tl P ≤ 1048576

theorem get_mem {P : List (List Int)} {i : Nat} (h : i < P.length) : P.getD i [] ∈ P := by
  simp [List.getD, h]

theorem Fine.get {P : List (List Int)} (h : Fine P) {i : Nat} (hi : i < P.length) : nrs (P.getD i []) = true ∧ (P.getD i []).length ≤ 1048576 :=
  ⟨h.nr _ (get_mem hi), Nat.le_trans (tl_get P i hi) h.all⟩

theorem map_get (P : List (List Int)) (f : List Int → Nat) (i : Nat) (h : i < P.length) : (P.map f).getD i 0 = f (P.getD i []) := by
  simp [List.getD, h]

theorem size_sums : (Try.prog.info? 50).map (·.size) = some 3 := by kernel_rfl

theorem wp_rows_len (P : List (List Int)) (K : Nat) : ((rws P K).map ni).length = K := by rw [List.length_map, rws_length]
theorem rows_get (P : List (List Int)) (K k : Nat) (h : k < K) : ((rws P K).map ni).getD k [] = ni (P.map (fun Q => sN Q k)) := by
  rw [← rws_get P K k h]
  simp [List.getD, rws_length, h]

def SBMid (i m g3 g6 : Nat) (n0 : Nat) (w2 : World) (f : Act) (w' : World) : Prop :=
  f.defers = [] ∧ f.tmps.size = 75 ∧ f.tmps[1]? = some (.int .i64 (i : Int)) ∧ f.tmps[2]? = some (.int .i64 (m : Int)) ∧ f.tmps[3]? = some (.pointer (some ⟨g3, 0, none⟩)) ∧ f.tmps[6]? = some (.pointer (some ⟨g6, 0, none⟩)) ∧
  ∃ g8 : Nat, f.tmps[8]? = some (.pointer (some ⟨g8, 0, none⟩)) ∧ f.tmps[9]? = some (.int .i64 (n0 : Int)) ∧ w'.heap[g8]? = some (.cells #[.int .i64 0, .bool false] 39 (0, 0)) ∧ Kept Nix w2 w' ∧ w2.heap.size ≤ g8

def SBInv (g3 g6 g8 : Nat) (vs : Value) (Q : List Int) (i M : Nat) (w2 : World) (f : Act) (w' : World) : Prop :=
  f.defers = [] ∧ f.tmps.size = 75 ∧ f.tmps[1]? = some (.int .i64 (i : Int)) ∧ f.tmps[3]? = some (.pointer (some ⟨g3, 0, none⟩)) ∧ f.tmps[6]? = some (.pointer (some ⟨g6, 0, none⟩)) ∧ f.tmps[8]? = some (.pointer (some ⟨g8, 0, none⟩)) ∧ f.tmps[30]? = some vs ∧ f.tmps[31]? = some (.int .i64 (M : Int)) ∧
  ∃ j : Nat, j ≤ M ∧ f.tmps[32]? = some (.int .i64 (j : Int)) ∧ f.tmps[9]? = some (.int .i64 (sN Q (bk Q (j - 1)) : Int)) ∧ Hid (w'.heap[g8]? = some (.cells #[.int .i64 (bk Q (j - 1) : Int), .bool false] 39 (0, 0))) ∧ Kept Nix w2 w'

theorem raw_two (l c : Nat) (hl : l ≤ 1048576) (hc : c ≤ 34) : ∃ R : Nat, R = 5 + l * c ∧ wrap64 ((l : Int) * (c : Int)) = ((l * c : Nat) : Int) ∧ wrap64 (5 + (l : Int) * (c : Int)) = (R : Int) := by
  have h : l * c ≤ 1048576 * 34 := Nat.mul_le_mul hl hc
  refine ⟨_, rfl, ?_, ?_⟩
  · rw [show (l : Int) * (c : Int) = ((l * c : Nat) : Int) by simp]
    exact small_i _ (by omega)
  · rw [show 5 + (l : Int) * (c : Int) = ((5 + l * c : Nat) : Int) by simp]
    exact small_i _ (by omega)

theorem bk_next (Q : List Int) (j : Nat) : bk Q (j + 1 - 1) = if sN Q j < sN Q (bk Q (j - 1)) then j else bk Q (j - 1) := by
  cases j with
  | zero => simp [bk]
  | succ j => simp only [Nat.add_sub_cancel, bk]

set_option maxRecDepth 10000 in
set_option maxHeartbeats 4000000 in
theorem sbest_any (v1 v2 v3 : Value) (P : List (List Int)) (K g i m : Nat) (w : World) (hS : Sums w v1 v2 v3 P K) (hT : Stp P K g) (hF : Fine P) (hm : m ≤ g) (hg : g ≤ 30) (hi : i < P.length) :
    Calls Try.prog 40 #[.agg #[v1, v2, v3], .int .i64 (i : Int), .int .i64 (m : Int)] w fun e w' => e = .returned (.tuple #[.agg #[.int .i64 (bestK (P.getD i []) m), .bool (bestR (P.getD i []) m)], .int .i64 (bestN (P.getD i []) m)]) ∧ Kept Nix w w' := by
  have hb := heap_alloc_new w (.cells #[v1, v2, v3] 50)
  have k1 : Kept Nix w (w.alloc (.cells #[v1, v2, v3] 50)) := (Kept.refl _ w).alloc _
  have HB := Lib.hid (fun w' (h : Kept Nix (w.alloc (.cells #[v1, v2, v3] 50)) w') => cells_three (h.heap hb id))
  have K1 := Lib.hid k1
  have S1 := Lib.hid (hS.nix k1)
  obtain ⟨a1, c1, rfl, -⟩ := hS.many.ints
  obtain ⟨a2, c2, rfl, -⟩ := hS.widths.ints
  obtain ⟨a3, c3, rfl, hc3, hm3, -⟩ := hS.bits.open
  have hq := hF.get hi
  obtain ⟨Q, hQ⟩ : ∃ Q, P.getD i [] = Q := ⟨_, rfl⟩
  rw [hQ] at hq ⊢
  have R0 := Lib.hid (fun j (hj : j < K) => by
    have h := S1.out.bits.row j (by rw [wp_rows_len]; exact hj)
    rw [rows_get P K j hj, ni_length, List.length_map] at h
    exact h)
  have GE := Lib.hid (fun j => show (ni (P.map (fun Q => sN Q j))).getD i 0 = (sN Q j : Int) by rw [ni_get, map_get P _ i hi, hQ])
  have G1 := Lib.hid (show (ni (P.map List.length)).getD i 0 = (Q.length : Int) by rw [ni_get, map_get P _ i hi, hQ])
  have G2 := Lib.hid (show (ni (P.map cw)).getD i 0 = (cw Q : Int) by rw [ni_get, map_get P _ i hi, hQ])
  have M1 := Lib.hid S1.out.many
  have M2 := Lib.hid S1.out.widths
  have HT := Lib.hid hT
  have HCUT := Lib.hid (bk_cut hT (show Q ∈ P by rw [← hQ]; exact get_mem hi) hm)
  have HQ := Lib.hid hq
  have HIL := Lib.hid (And.intro hi hF.len)
  have HMG := Lib.hid (And.intro hm hg)
  have HC3 := Lib.hid hc3
  simp only [rws_length, ni_length, List.length_map] at *
  clear hb k1 hS hT hF hm hg hi hc3 hm3 S1 hQ hq
  generalize hn : P.length = n at *
  have HNP := Lib.hid hn
  clear hn
  go_enter Try.func40, Try.ntmps40
  go_upto_region 1 with fail
  have KA := Lib.hid ((Kept.refl Nix (w.alloc (.cells #[.slice a1 n c1, .slice a2 n c2, .slice a3 K c3] 50))).alloc (.cells #[.int .i64 0, .bool false] 39))
  have H6 := Lib.hid (heap_alloc_new (w.alloc (.cells #[.slice a1 n c1, .slice a2 n c2, .slice a3 K c3] 50)) (.cells #[.int .i64 0, .bool false] 39))
  have hsz : (w.alloc (.cells #[.slice a1 n c1, .slice a2 n c2, .slice a3 K c3] 50)).heap.size = w.heap.size + 1 := by simp
  rw [hsz] at H6
  generalize (w.alloc (.cells #[.slice a1 n c1, .slice a2 n c2, .slice a3 K c3] 50)).alloc (.cells #[.int .i64 0, .bool false] 39) = w2 at *
  generalize w.alloc (.cells #[.slice a1 n c1, .slice a2 n c2, .slice a3 K c3] 50) = w1 at *
  obtain ⟨g6, hg6⟩ : ∃ g6, w.heap.size + 1 = g6 := ⟨_, rfl⟩
  obtain ⟨x0, x1, x2⟩ := HB.out w2.drew KA.out.drew
  obtain ⟨b3, o3, rfl, ro, rc, hr⟩ := R0.out 0 HT.out.lo
  obtain ⟨y0, ys⟩ := hr w2.drew KA.out.drew
  obtain ⟨b4, o4, rfl, hc4⟩ := cell_kept ys i (by rw [ni_length, List.length_map, HNP.out]; exact HIL.out.1)
  have y1 := hc4 _ (Kept.refl _ _)
  have kz : Kept Nix w2.drew (w2.alloc (.cells #[.int .i64 0, .bool false] 39)) := (show Kept Nix w2.drew w2 from ⟨rfl, rfl, rfl, Nat.le_refl _, fun _ _ _ => rfl⟩).alloc _
  have z1 := hc4 _ kz
  rw [GE.out 0] at y1 z1
  obtain ⟨u0, u1, u2⟩ := HB.out (w2.alloc (.cells #[.int .i64 0, .bool false] 39)) (KA.out.alloc _)
  obtain ⟨z0, -⟩ := hr (w2.alloc (.cells #[.int .i64 0, .bool false] 39)) (KA.out.alloc _)
  have j0 : (i : Int) < (n : Int) := by have := HIL.out.1; omega
  have j1 : i < n := HIL.out.1
  have j2 : (0 : Int) < (K : Int) := by have := HT.out.lo; omega
  have j3 : 0 < K := by have := HT.out.lo; omega
  rw [hg6] at H6 ⊢
  clear hr hc4 ys kz
  simp only [Nat.add_zero] at y0 z0
  refine wp_cut (SBMid i m w.heap.size g6 (sN Q 0) w2) ?_ ?_
  case refine_2 =>
    intro J K' hJ hK'
    have HG8 := Lib.hid (heap_alloc_new w2 (.cells #[.int .i64 0, .bool false] 39))
    go_region_law fail
    all_goals
      refine hK' _ _ (Met.intro (hJ _ _ ⟨rfl, rfl, rfl, rfl, rfl, rfl, w2.heap.size, rfl, rfl, ?_, ?_, Nat.le_refl _⟩))
      · exact HG8.out
      · exact ((Kept.refl Nix w2).alloc _).drew
  clear x0 x1 x2 u0 u1 u2 y0 y1 z0 z1 j0 j1 j2 j3
  rintro ⟨tm, df⟩ w3 ⟨rfl, hs, e1, e2, e3, e6, g8, e8, e9, h8, k8, hg8⟩
  simp only at hs e1 e2 e3 e6 e8 e9
  obtain ⟨f, hf, hg⟩ := fr_open hs
  have g1 := hg _ _ e1
  have g2 := hg _ _ e2
  have g3 := hg _ _ e3
  have g6' := hg _ _ e6
  have g8' := hg _ _ e8
  have g9 := hg _ _ e9
  simp only [List.range, List.range.loop, List.map] at hf
  rw [g1, g2, g3, g6', g8', g9] at hf
  clear g1 g2 g3 g6' g8' g9 hg hs e1 e2 e3 e6 e8 e9
  subst hf
  have H8 := Lib.hid h8
  have K8 := Lib.hid k8
  have HG8 := Lib.hid hg8
  clear h8 k8 hg8
  obtain ⟨x0, x1, x2⟩ := HB.out w3 (nix_trans KA.out K8.out)
  obtain ⟨M, hM⟩ : ∃ M, min (m + 1) K = M := ⟨_, rfl⟩
  obtain ⟨m1, hm1⟩ : ∃ m1, m + 1 = m1 := ⟨_, rfl⟩
  have hw : wrap64 ((m : Int) + 1) = (m1 : Int) := by have := HMG.out; rw [w64_in _ (by omega)]; omega
  have hmn : (if (K : Int) < (m1 : Int) then (K : Int) else (m1 : Int)) = (M : Int) := by split <;> omega
  have hmn2 : (if K < m1 then (K : Int) else (m1 : Int)) = (M : Int) := by split <;> omega
  have hup := fun w => run_upto_rw w (some ⟨b3, o3, none⟩) K c3 M (by have := HC3.out; omega)
  have hM0 := HT.out.lo
  rw [hM] at HCUT
  have HMM := Lib.hid (show 1 ≤ M ∧ M ≤ K ∧ M ≤ 31 by have := HMG.out; omega)
  clear hM hm1 hM0
  go_wp2
  clear x0 x1 x2 hw hmn hmn2 hup
  refine wp_loop (SBInv w.heap.size g6 g8 (.slice (some ⟨b3, o3, none⟩) M c3) Q i M w2) (fun f _ => M - (intOf (f.tmps.getD 32 undef)).toNat) ?_ ?_
  · exact ⟨rfl, rfl, rfl, rfl, rfl, rfl, rfl, rfl, 0, Nat.zero_le _, rfl, rfl, Lib.hid H8.out, K8.out⟩
  · clear H8 K8
    rintro ⟨tm, df⟩ w4 ⟨rfl, hs, e1, e3, e6, e8, e30, e31, j, hj, e32, e9, h8, k8⟩
    simp only at hs e1 e3 e6 e8 e30 e31 e32 e9
    obtain ⟨f4, hf, hg⟩ := fr_open hs
    have g1 := hg _ _ e1
    have g3 := hg _ _ e3
    have g6' := hg _ _ e6
    have g8' := hg _ _ e8
    have g30 := hg _ _ e30
    have g31 := hg _ _ e31
    have g32 := hg _ _ e32
    have g9 := hg _ _ e9
    simp only [List.range, List.range.loop, List.map] at hf
    rw [g1, g3, g6', g8', g30, g31, g32, g9] at hf
    clear g1 g3 g6' g8' g30 g31 g32 g9 hg hs e1 e3 e6 e8 e30 e31 e32 e9
    subst hf
    have H8 := Lib.hid h8.out
    have K8 := Lib.hid k8
    clear h8 k8
    by_cases hlt : j < M
    · have hdd : decide (j < M) = true := decide_eq_true hlt
      have hj1 : (j : Int) < (M : Int) := by omega
      obtain ⟨b5, o5, hbe, ro5, rc5, hr⟩ := R0.out j (by have := HMM.out; omega)
      simp only [Option.some.injEq, Addr.mk.injEq, and_true] at hbe
      obtain ⟨rfl, rfl⟩ := hbe
      obtain ⟨y0, ys⟩ := hr w4 (nix_trans KA.out K8.out)
      obtain ⟨b4, o4, rfl, hc4⟩ := cell_kept ys i (by rw [ni_length, List.length_map, HNP.out]; exact HIL.out.1)
      have y1 := hc4 w4 (Kept.refl _ _)
      have y2 := hc4 w4.drew (Kept.refl _ _).drew
      have k9 : Kept Nix w1 ((w4.setCell ⟨g8, 0, none⟩ (.int .i64 (j : Int))).setCell ⟨g8, 1, none⟩ (.bool false)) := ((nix_trans KA.out K8.out).setCell (.inr (Nat.le_trans KA.out.size HG8.out)) _).setCell (.inr (Nat.le_trans KA.out.size HG8.out)) _
      obtain ⟨-, ys5⟩ := hr _ k9
      obtain ⟨b6, o6, hbe, hc6⟩ := cell_kept ys5 i (by rw [ni_length, List.length_map, HNP.out]; exact HIL.out.1)
      simp only [Option.some.injEq, Addr.mk.injEq, and_true] at hbe
      obtain ⟨rfl, rfl⟩ := hbe
      have y3 := hc6 _ (Kept.refl _ _)
      rw [GE.out j] at y1 y2 y3
      have q0 : (i : Int) < (n : Int) := by have := HIL.out.1; omega
      have q1 : i < n := HIL.out.1
      have HI := Lib.hid hlt
      have HW := Lib.hid (show wrap64 ((j : Int) + 1) = ((j + 1 : Nat) : Int) by have := HMM.out; rw [w64_in _ (by omega)]; omega)
      have BN := Lib.hid (bk_next Q j)
      clear hr hc4 ys hlt hj k9 ys5 hc6
      generalize hbb : bk Q (j + 1 - 1) = bn at *
      have HB1 := Lib.hid hbb
      clear hbb
      generalize hb0 : bk Q (j - 1) = b0 at *
      by_cases hsm : sN Q j < sN Q b0
      · have hbn := BN.out
        rw [if_pos hsm] at hbn
        have t1 : decide (sN Q j < sN Q b0) = true := decide_eq_true hsm
        have HBN := Lib.hid (show bk Q (j + 1 - 1) = j from HB1.out.trans hbn)
        subst hbn
        clear hsm BN HB1
        generalize sN Q b0 = s0 at *
        generalize hs1 : sN Q bn = s1 at *
        have HS1 := Lib.hid hs1
        clear hs1
        go_upto_region 6 with fail
        have p0 := (cell_of (i := 0) H8.out).trans rfl
        have p1 := (cell_of (i := 1) H8.out).trans rfl
        have p2 := frozen_of (i := 0) H8.out
        have p3 := frozen_of (i := 1) H8.out
        go_region_law fail
        all_goals
          have H9 := Lib.hid (heap_set (i := 1) (u := .bool false) (heap_set (i := 0) (u := .int .i64 (bn : Int)) H8.out))
          have K9 := Lib.hid (((K8.out.setCell (p := ⟨g8, 0, none⟩) (.inr HG8.out) (.int .i64 (bn : Int))).setCell (p := ⟨g8, 1, none⟩) (.inr HG8.out) (.bool false)).drew)
          clear p0 p1 p2 p3 y0 y1 y2 y3
          go_wp2
          rw [HW.out]
          refine ⟨⟨rfl, rfl, rfl, rfl, rfl, rfl, rfl, rfl, bn + 1, HI.out, rfl, ?_, ?_, K9.out⟩, nearer HI.out rfl⟩
          · rw [HBN.out, HS1.out]; rfl
          · rw [HBN.out]; exact Lib.hid H9.out
      · have hbn := BN.out
        rw [if_neg hsm] at hbn
        have t1 : decide (sN Q j < sN Q b0) = false := decide_eq_false hsm
        have HBN := HB1
        subst hbn
        clear hsm BN HB1
        generalize hs0 : sN Q bn = s0 at *
        have HS0 := Lib.hid hs0
        generalize sN Q j = s1 at *
        clear hs0
        go_wp2
        rw [HW.out]
        refine ⟨⟨rfl, rfl, rfl, rfl, rfl, rfl, rfl, rfl, j + 1, HI.out, rfl, ?_, ?_, K8.out⟩, nearer HI.out rfl⟩
        · rw [HBN.out, HS0.out]; rfl
        · rw [HBN.out]; exact Lib.hid H8.out
    · have hje : j = M := by omega
      subst hje
      have hdd : decide (j < j) = false := decide_eq_false hlt
      rw [HCUT.out] at H8 ⊢
      clear hlt hj
      obtain ⟨x0, x1, x2⟩ := HB.out w4 (nix_trans KA.out K8.out)
      obtain ⟨b5, o5, rfl, hc5⟩ := cell_kept M1.out i (by rw [ni_length, List.length_map, HNP.out]; exact HIL.out.1)
      obtain ⟨b6, o6, rfl, hc6⟩ := cell_kept M2.out i (by rw [ni_length, List.length_map, HNP.out]; exact HIL.out.1)
      have y1 := hc5 w4 (nix_trans KA.out K8.out)
      have y2 := hc6 w4 (nix_trans KA.out K8.out)
      rw [G1.out] at y1
      rw [G2.out] at y2
      have q0 : (i : Int) < (n : Int) := by have := HIL.out.1; omega
      have q1 : i < n := HIL.out.1
      have hcw := cw_near HQ.out.1
      obtain ⟨RR, hRR, e1, e2⟩ := raw_two Q.length (cw Q) HQ.out.2 hcw
      have H6' := Lib.hid (K8.out.heap H6.out id)
      have HG6 := Lib.hid (show g6 < w2.heap.size by have := KA.out.size; have := (Array.getElem?_eq_some_iff.1 H6.out).1; exact this)
      have HNE := Lib.hid (show g6 ≠ g8 by have := HG6.out; have := HG8.out; omega)
      have hbest := best_near HQ.out.1 m
      obtain ⟨hb1, hb2, hb3, -⟩ := hbest
      have KR := Lib.hid (nix_trans K1.out (nix_trans KA.out K8.out))
      have HGW := Lib.hid (show w.heap.size ≤ g6 ∧ w.heap.size ≤ g8 by have := HG6.out; have := HG8.out; have := KA.out.size; have := K1.out.size; omega)
      clear hc5 hc6 R0 GE G1 G2 M1 M2
      cases hr : cbR Q m with
      | true =>
        have hr2 := hr
        simp only [cbR, Bool.and_eq_true, decide_eq_true_eq] at hr2
        have t1 : decide (((cw Q : Nat) : Int) ≤ 31) = true := decide_eq_true (by omega)
        have t2 : decide (RR < sN Q (bk Q m)) = true := decide_eq_true (by rw [hRR]; exact hr2.2)
        have HR := Lib.hid (show bestK Q m = (cw Q : Int) ∧ bestR Q m = true ∧ bestN Q m = (RR : Int) by rw [hb1, hb2, hb3, cbK, cbN, hr, if_pos rfl, if_pos rfl, hRR]; exact ⟨rfl, rfl, rfl⟩)
        clear hb1 hb2 hb3 hr hr2 hRR hcw
        generalize Q.length = ql at *
        generalize cw Q = cq at *
        generalize sN Q (bk Q m) = sb at *
        generalize bk Q m = bq at *
        go_wp2_with (first
          | (refine wpList_load_row rfl 39 _ rfl g8 rfl 39 _ (0, 0) _ (heap_row _ H8.out) Try.underlying39 rfl size_part ?_)
          | (refine wpList_store_row rfl 39 _ _ rfl _ _ rfl rfl 39 _ H8.out size_part rfl (one_part _ _) ?_)
          | (refine wpList_store_row rfl 39 _ _ rfl _ _ rfl rfl 39 _ ((heap_row_other _ HNE.out).trans H6'.out) size_part rfl (one_part _ _) ?_))
        refine bodyPost_ret (results_part1 rfl _ _ g6 _ (RR : Int) rfl (heap_row _ ((heap_row_other _ HNE.out).trans H6'.out)) rfl rfl) rfl ⟨?_, (KR.out.setRow (.inr HGW.out.2) _).setRow (.inr HGW.out.1) _⟩
        rw [HR.out.1, HR.out.2.1, HR.out.2.2]
      | false =>
        have hr2 := hr
        simp only [cbR, Bool.and_eq_false_iff, decide_eq_false_iff_not] at hr2
        have t2 : decide (((cw Q : Nat) : Int) ≤ 31) = false ∨ (decide (((cw Q : Nat) : Int) ≤ 31) = true ∧ decide (RR < sN Q (bk Q m)) = false) := by
          simp only [decide_eq_true_eq, decide_eq_false_iff_not]
          omega
        have HR := Lib.hid (show bestK Q m = (bk Q m : Int) ∧ bestR Q m = false ∧ bestN Q m = (sN Q (bk Q m) : Int) by rw [hb1, hb2, hb3, cbK, cbN, hr, if_neg (by simp), if_neg (by simp)]; exact ⟨rfl, rfl, rfl⟩)
        clear hb1 hb2 hb3 hr hr2 hRR hcw
        generalize Q.length = ql at *
        generalize cw Q = cq at *
        generalize sN Q (bk Q m) = sb at *
        generalize bk Q m = bq at *
        rcases t2 with t1 | ⟨t1, t2⟩
        all_goals
          go_wp2_with (first
            | (refine wpList_load_row rfl 39 _ rfl g8 rfl 39 _ (0, 0) _ H8.out Try.underlying39 rfl size_part ?_)
            | (refine wpList_store_row rfl 39 _ _ rfl _ _ rfl rfl 39 _ H6'.out size_part rfl (one_part _ _) ?_))
          refine bodyPost_ret (results_part1 rfl _ _ g6 _ (sb : Int) rfl (heap_row _ H6'.out) rfl rfl) rfl ⟨?_, KR.out.setRow (.inr HGW.out.1) _⟩
          rw [HR.out.1, HR.out.2.1, HR.out.2.2]

end Go.Proofs.Ytliggpidkdiinaa

namespace Go.Proofs.Ytliggpidkdiinaa
open Go.RowKit Bx

theorem map_le (P : List (List Int)) (f : List Int → Nat) (B : Nat) (h : ∀ Q ∈ P, f Q ≤ B) (i : Nat) : (P.map f).getD i 0 ≤ B := by
  by_cases hi : i < P.length
  · rw [map_get P f i hi]
    exact h _ (get_mem hi)
  · simp [List.getD, List.getElem?_eq_none (Nat.le_of_not_lt hi)]

theorem Fine.mem {P : List (List Int)} (h : Fine P) {Q : List Int} (hQ : Q ∈ P) : nrs Q = true ∧ Q.length ≤ 1048576 := by
  obtain ⟨i, hi, rfl⟩ := List.getElem_of_mem hQ
  have := h.get hi
  rwa [show P.getD i [] = P[i] by simp [List.getD, hi]] at this

theorem prs_length : ∀ P : List (List Int), (prs P).length = P.length / 2
  | [] => by simp [prs]
  | [_] => by simp [prs]
  | a :: b :: R => by simp only [prs, List.length_cons, prs_length R]; omega

theorem prs_tl : ∀ P : List (List Int), tl (prs P) ≤ tl P
  | [] => Nat.le_refl _
  | [_] => by simp [prs, tl]
  | a :: b :: R => by
    have := prs_tl R
    simp only [prs, tl_cons, List.length_append]
    omega

theorem Fine.pair {P : List (List Int)} (h : Fine P) : Fine (prs P) :=
  ⟨prs_nrs P h.nr, by rw [prs_length]; have := h.len; omega, Nat.le_trans (prs_tl P) h.all⟩

theorem keep_int3 {base : Nat} {w2 w6 : World} {v x : Value} {n k : Nat} {us xs : List Value} (hv : w2.ownsRow base 22 1 v n us) (hg : w2.grownBy w6 v.ownBlock) (hx : w2.ownsRow base 3 1 x k xs) : w6.ownsRow base 3 1 x k xs := by
  have hk : Kept (fun k => v.ownBlock = some k) w2 w6 := ⟨hg.os, hg.tape, hg.output, hg.size, fun k hk hn => hg.block k hk (fun e => hn e.symm)⟩
  refine hk.owns hx (fun k hb hs => ?_)
  obtain ⟨c1, g1⟩ := owns_type hx hb
  obtain ⟨c2, g2⟩ := owns_type hv hs
  rw [g1] at g2
  simp at g2

theorem keep_set3 {base p k : Nat} {w6 : World} {x u : Value} {xs : List Value} {cs : Array Value} (h9 : w6.heap[p]? = some (.cells cs 50 (0, 0))) (hx : w6.ownsRow base 3 1 x k xs) (j : Nat) : (w6.setCell ⟨p, j, none⟩ u).ownsRow base 3 1 x k xs := by
  refine ((Kept.refl (One p) w6).setCell (p := ⟨p, j, none⟩) (.inl rfl) u).owns hx (fun k hb hs => ?_)
  have hs : k = p := hs
  subst hs
  obtain ⟨c1, g1⟩ := owns_type hx hb
  rw [h9] at g1
  simp at g1

/-- A row more, and the sums that hold them. -/
theorem rack_step3 {base : Nat} {w1 w2 w6 : World} {x y v v6 u : Value} {p9 : Nat} {us : List Value} {L : List (List Int)} {zs : List Int} (h9 : w1.heap[p9]? = some (.cells #[x, y, v] 50 (0, 0)))
    (hgd : Rack base w1 v us L) (k2 : Kept Nix w1 w2) (hu : w2.ownsRow base 3 1 u zs.length (ivs zs))
    (o6 : w6.ownsRow base 22 1 v6 (us.length + 1) (us ++ [u])) (g6 : w2.grownBy w6 v.ownBlock) :
    w6.heap[p9]? = some (.cells #[x, y, v] 50 (0, 0)) ∧ (w6.setCell ⟨p9, 2, none⟩ v6).heap[p9]? = some (.cells #[x, y, v6] 50 (0, 0)) ∧ Rack base (w6.setCell ⟨p9, 2, none⟩ v6) v6 (us ++ [u]) (L ++ [zs]) ∧
    ∀ (q : Value) (k : Nat) (xs : List Value), w1.ownsRow base 3 1 q k xs → (w6.setCell ⟨p9, 2, none⟩ v6).ownsRow base 3 1 q k xs := by
  have hk2 := k2.heap h9 id
  have q9 : w6.heap[p9]? = some (.cells #[x, y, v] 50 (0, 0)) := by
    refine (g6.block p9 (Array.getElem?_eq_some_iff.1 hk2).1 (fun e => ?_)).trans hk2
    obtain ⟨cur', hg'⟩ := owns_type (hgd.kept k2).1 e.symm
    rw [hk2] at hg'
    simp at hg'
  have hpush := hgd.push k2 hu o6 g6
  refine ⟨q9, (heap_set q9).trans (by simp), ?_, fun q k xs hq => keep_set3 q9 (keep_int3 (hgd.kept k2).1 g6 (k2.owns hq (fun _ _ h => h))) 2⟩
  refine hpush.other (Kept.setCell (S := One p9) (Kept.refl _ _) (p := ⟨p9, 2, none⟩) (.inl rfl) _) (fun k cur t hk' hh => ?_)
  have hk'' : k = p9 := hk'
  subst hk''
  rw [q9] at hh
  cases hh
  exact ⟨by decide, by decide⟩

theorem one_three (a b c : Option Addr) (i j k l m n : Nat) : (#[.slice a i j, .slice b k l, .slice c m n] : Array Value).all (·.oneCell') = true := by simp [Value.oneCell']

/-- Sums of the call's own. -/
structure SumsO (base : Nat) (w : World) (v1 v2 v3 : Value) (P : List (List Int)) (K : Nat) : Prop where
  many : w.ownsRow base 3 1 v1 P.length (ivs (ni (P.map List.length)))
  widths : w.ownsRow base 3 1 v2 P.length (ivs (ni (P.map cw)))
  bits : ∃ us, Rack base w v3 us ((rws P K).map ni)

theorem SumsO.sums {base : Nat} {w : World} {v1 v2 v3 : Value} {P : List (List Int)} {K : Nat} (h : SumsO base w v1 v2 v3 P K) : Sums w v1 v2 v3 P K :=
  ⟨sl_of_owns h.many, sl_of_owns h.widths, by obtain ⟨us, hr⟩ := h.bits; exact hr.chs⟩

theorem SumsO.other {base : Nat} {w w' : World} {v1 v2 v3 : Value} {P : List (List Int)} {K : Nat} (h : SumsO base w v1 v2 v3 P K) {S : Nat → Prop} (hk : Kept S w w') (hS : ∀ k cur t, S k → w.heap[k]? = some (.cells cur t (0, 0)) → t ≠ 22 ∧ t ≠ 3) : SumsO base w' v1 v2 v3 P K := by
  refine ⟨hk.owns h.many (fun k hb hs => ?_), hk.owns h.widths (fun k hb hs => ?_), ?_⟩
  · obtain ⟨cur, hg⟩ := owns_type h.many hb
    exact (hS k _ _ hs hg).2 rfl
  · obtain ⟨cur, hg⟩ := owns_type h.widths hb
    exact (hS k _ _ hs hg).2 rfl
  · obtain ⟨us, hr⟩ := h.bits
    exact ⟨us, hr.other hk hS⟩

theorem Rack.weak {base base' : Nat} {w : World} {v : Value} {us : List Value} {L : List (List Int)} (h : Rack base w v us L) (hb : base' ≤ base) : Rack base' w v us L := by
  obtain ⟨h1, h2, h3⟩ := h
  refine ⟨?_, h2, fun i hi => by obtain ⟨u, hu, ho⟩ := h3 i hi; exact ⟨u, hu, owns_weak ho hb⟩⟩
  refine ⟨h1.1, ?_⟩
  rcases h1.2 with h2 | ⟨g, cap, cur, e1, e2, e3⟩
  · exact .inl h2
  · exact .inr ⟨g, cap, cur, e1, Nat.le_trans hb e2, e3⟩

def PairInv (g1 g2 g3 K n : Nat) (v3 : Value) (u1 u2 : Value) (P : List (List Int)) (w1 : World) (f : Act) (w' : World) : Prop :=
  f.defers = [] ∧ f.tmps.size = 30 ∧ f.tmps[1]? = some (.pointer (some ⟨g1, 0, none⟩)) ∧ f.tmps[2]? = some (.pointer (some ⟨g2, 0, none⟩)) ∧ f.tmps[3]? = some (.pointer (some ⟨g3, 0, none⟩)) ∧ f.tmps[15]? = some v3 ∧ f.tmps[16]? = some (.int .i64 (K : Int)) ∧
  ∃ k : Nat, k ≤ K ∧ f.tmps[17]? = some (.int .i64 (k : Int)) ∧ ∃ v us, Hid (w'.heap[g3]? = some (.cells #[u1, u2, v] 50 (0, 0))) ∧ Rack w1.heap.size w' v us ((rws (prs P) k).map ni) ∧
    w'.ownsRow w1.heap.size 3 1 u1 n (ivs (ni ((prs P).map List.length))) ∧ w'.ownsRow w1.heap.size 3 1 u2 n (ivs (ni ((prs P).map cw))) ∧ Kept Nix w1 w'

set_option maxRecDepth 10000 in
set_option maxHeartbeats 4000000 in
theorem paired_any (v1 v2 v3 : Value) (P : List (List Int)) (K g : Nat) (w : World) (hS : Sums w v1 v2 v3 P K) (hT : Stp P K g) (hF : Fine P) (hg : g ≤ 30) :
    Calls Try.prog 33 #[.agg #[v1, v2, v3]] w fun e w' => ∃ u1 u2 u3, e = .returned (.agg #[u1, u2, u3]) ∧ SumsO w.heap.size w' u1 u2 u3 (prs P) K ∧ Kept Nix w w' := by
  have hb := heap_alloc_new w (.cells #[v1, v2, v3] 50)
  have k1 : Kept Nix w (w.alloc (.cells #[v1, v2, v3] 50)) := (Kept.refl _ w).alloc _
  have HB := Lib.hid (fun w' (h : Kept Nix (w.alloc (.cells #[v1, v2, v3] 50)) w') => cells_three (h.heap hb id))
  have K1 := Lib.hid k1
  have S1 := Lib.hid (hS.nix k1)
  have PP := Lib.hid (fun w' (h : Kept Nix w w') => pairs_plus v1 (P.map List.length) w' (hS.many.nix h) (by rw [List.length_map]; exact hF.len) (fun i => Nat.le_trans (map_le P _ 1048576 (fun Q hQ => (hF.mem hQ).2) i) (by omega)))
  have PW := Lib.hid (fun w' (h : Kept Nix w w') => pairs_wider v2 (P.map cw) w' (hS.widths.nix h) (by rw [List.length_map]; exact hF.len) (fun i => Nat.le_trans (map_le P _ 34 (fun Q hQ => cw_near (hF.mem hQ).1) i) (by omega)))
  have PR := Lib.hid (fun (k : Nat) (hk : k < K) v' w' (h : Sl w' v' (ivs (ni (P.map (fun Q => sN Q k))))) => pairs_plus v' (P.map (fun Q => sN Q k)) w' h (by rw [List.length_map]; exact hF.len) (fun i => Nat.le_trans (map_le P _ 18014430000000000 (fun Q hQ => sN_big (hF.mem hQ).1 (hF.mem hQ).2 k (by have := hT.hi; omega)) i) (by omega)))
  simp only [← prs_map List.length (· + ·) (fun a b => List.length_append)] at PP
  simp only [← prs_map cw max cw_append] at PW
  have PR := Lib.hid (fun (k : Nat) (hk : k < K) v' w' (h : Sl w' v' (ivs (ni (P.map (fun Q => sN Q k))))) => (by
    have h1 := PR.out k hk v' w' h
    rw [← prs_map (fun Q => sN Q k) (· + ·) (fun a b => sN_append a b k)] at h1
    exact h1 : Calls Try.prog 41 #[v', .func (.func 42) #[] #[]] w' fun e w'' => ∃ u, e = .returned u ∧ w''.ownsRow w'.heap.size 3 1 u ((prs P).map (fun Q => sN Q k)).length (ivs (ni ((prs P).map (fun Q => sN Q k)))) ∧ Kept Nix w' w''))
  simp only [List.length_map] at PP PW PR
  obtain ⟨n, hn⟩ : ∃ n, (prs P).length = n := ⟨_, rfl⟩
  have HNP := Lib.hid (And.intro hn hF.pair.len)
  rw [hn] at PP PW PR
  have HKK := Lib.hid (show K ≤ 31 by have := hT.hi; omega)
  obtain ⟨a1, c1, rfl, -⟩ := hS.many.ints
  obtain ⟨a2, c2, rfl, -⟩ := hS.widths.ints
  obtain ⟨a3, c3, rfl, -⟩ := hS.bits.open
  have R0 := Lib.hid (fun j (hj : j < K) => by
    have h := S1.out.bits.row j (by rw [wp_rows_len]; exact hj)
    rw [rows_get P K j hj, ni_length, List.length_map] at h
    exact h)
  simp only [rws_length, ni_length, List.length_map] at *
  clear hb k1 hS hT hF hg hn
  generalize P.length = np at *
  go_enter Try.func33, Try.ntmps33
  go_upto_region 1 with fail
  have KA := Lib.hid ((Kept.refl Nix (w.alloc (.cells #[.slice a1 np c1, .slice a2 np c2, .slice a3 K c3] 50))).alloc (.cells #[.slice none 0 0, .slice none 0 0, .slice none 0 0] 50))
  have H2 := Lib.hid (heap_alloc_new (w.alloc (.cells #[.slice a1 np c1, .slice a2 np c2, .slice a3 K c3] 50)) (.cells #[.slice none 0 0, .slice none 0 0, .slice none 0 0] 50))
  have hsz : (w.alloc (.cells #[.slice a1 np c1, .slice a2 np c2, .slice a3 K c3] 50)).heap.size = w.heap.size + 1 := by simp
  rw [hsz] at H2
  generalize (w.alloc (.cells #[.slice a1 np c1, .slice a2 np c2, .slice a3 K c3] 50)).alloc (.cells #[.slice none 0 0, .slice none 0 0, .slice none 0 0] 50) = w1 at *
  generalize w.alloc (.cells #[.slice a1 np c1, .slice a2 np c2, .slice a3 K c3] 50) = w0 at *
  obtain ⟨g2, hg2⟩ : ∃ g2, w.heap.size + 1 = g2 := ⟨_, rfl⟩
  rw [hg2] at H2 ⊢
  have HG2 := Lib.hid hg2
  clear hg2 hsz
  obtain ⟨x0, x1, x2⟩ := HB.out w1 KA.out
  have P1 := Lib.hid (PP.out w1 (nix_trans K1.out KA.out))
  go_upto_region 2 with (go_at_call 41; refine P1.out.mono ?_; rintro e w2 ⟨u1, rfl, o1, k2⟩; have K2 := Lib.hid k2; have O1 := Lib.hid o1; obtain ⟨ua, uc, rfl, -⟩ := owns_shape o1; clear o1 k2 P1)
  have H3 := Lib.hid (heap_alloc_new w2 (.cells #[.slice ua n uc, .slice none 0 0, .slice none 0 0] 50))
  have K3 := Lib.hid (nix_trans K2.out ((Kept.refl Nix w2).alloc (.cells #[.slice ua n uc, .slice none 0 0, .slice none 0 0] 50)))
  have O1 := Lib.hid (O1.out.alloc (.cells #[.slice ua n uc, .slice none 0 0, .slice none 0 0] 50))
  have HG3 := Lib.hid K2.out.size
  generalize w2.alloc (.cells #[.slice ua n uc, .slice none 0 0, .slice none 0 0] 50) = w3 at *
  generalize w2.heap.size = g3 at *
  clear x0 x1 x2
  obtain ⟨x0, x1, x2⟩ := HB.out w3 (nix_trans KA.out K3.out)
  have P2 := Lib.hid (PW.out w3 (nix_trans K1.out (nix_trans KA.out K3.out)))
  go_upto_region 3 with (go_at_call 41; refine P2.out.mono ?_; rintro e w4 ⟨u2, rfl, o2, k4⟩; have K4 := Lib.hid k4; have O2 := Lib.hid o2; obtain ⟨ub, ud, rfl, -⟩ := owns_shape o2; have h4 := k4.heap H3.out id; have y1 := (cell_of (i := 1) h4).trans rfl; have z1 := frozen_of (i := 1) h4; have H4 := Lib.hid h4; clear o2 k4 h4 P2)
  have H5 := Lib.hid ((heap_set (i := 1) (u := .slice ub n ud) H4.out).trans rfl)
  have OA := Lib.hid (keep_set3 (p := g3) (u := .slice ub n ud) H4.out (K4.out.owns O1.out (fun _ _ h => h)) 1)
  have OB := Lib.hid (keep_set3 (p := g3) (u := .slice ub n ud) H4.out (owns_weak O2.out K3.out.size) 1)
  have K5 := Lib.hid ((nix_trans K3.out K4.out).setCell (p := ⟨g3, 1, none⟩) (.inr HG3.out) (.slice ub n ud))
  clear x0 x1 x2 y1 z1 H4 H3 O1 O2 K4 K3 PP PW
  generalize w4.setCell ⟨g3, 1, none⟩ (.slice ub n ud) = w5 at *
  obtain ⟨x0, x1, x2⟩ := HB.out w5 (nix_trans KA.out K5.out)
  go_wp2
  clear x0 x1 x2
  refine wp_loop (PairInv w.heap.size g2 g3 K n (.slice a3 K c3) (.slice ua n uc) (.slice ub n ud) P w1) (fun f _ => K - (intOf (f.tmps.getD 17 undef)).toNat) ?_ ?_
  · exact ⟨rfl, rfl, rfl, rfl, rfl, rfl, rfl, 0, Nat.zero_le _, rfl, _, [], Lib.hid H5.out, rack_nil _ _, OA.out, OB.out, K5.out⟩
  · clear H5 OA OB K5
    rintro ⟨tm, df⟩ w6 ⟨rfl, hs, e1, e2, e3, e15, e16, k, hk, e17, v, us, h3, hrk, oa, ob, k6⟩
    simp only at hs e1 e2 e3 e15 e16 e17
    obtain ⟨f, hf, hg⟩ := fr_open hs
    have g1' := hg _ _ e1
    have g2' := hg _ _ e2
    have g3' := hg _ _ e3
    have g15' := hg _ _ e15
    have g16' := hg _ _ e16
    have g17' := hg _ _ e17
    simp only [List.range, List.range.loop, List.map] at hf
    rw [g1', g2', g3', g15', g16', g17'] at hf
    clear g1' g2' g3' g15' g16' g17' hg hs e1 e2 e3 e15 e16 e17
    subst hf
    have H3 := Lib.hid h3.out
    have RK := Lib.hid hrk
    have OA := Lib.hid oa
    have OB := Lib.hid ob
    have K6 := Lib.hid k6
    clear h3 hrk oa ob k6
    by_cases hlt : k < K
    · have hdd : decide (k < K) = true := decide_eq_true hlt
      have hk1 : (k : Int) < (K : Int) := by omega
      obtain ⟨b3, o3, rfl, ro, rc, hr⟩ := R0.out k hlt
      obtain ⟨y0, -⟩ := hr w6 (nix_trans KA.out K6.out)
      obtain ⟨-, ys⟩ := hr w6.drew (nix_trans KA.out K6.out).drew
      have PK := Lib.hid (PR.out k hlt _ w6.drew ys)
      have hst := rws_succ (prs P) k
      have HST := Lib.hid (show ((rws (prs P) (k + 1)).map ni) = (rws (prs P) k).map ni ++ [ni ((prs P).map (fun Q => sN Q k))] by rw [hst, List.map_append]; rfl)
      have HLZ := Lib.hid (show (ni ((prs P).map (fun Q => sN Q k))).length = n by rw [ni_length, List.length_map]; exact HNP.out.1)
      have HUS := Lib.hid (show us.length = k by have := RK.out.2.1; rw [List.length_map, rws_length] at this; exact this)
      have HI := Lib.hid hlt
      have HW := Lib.hid (show wrap64 ((k : Int) + 1) = ((k + 1 : Nat) : Int) by have := HKK.out; rw [w64_in _ (by omega)]; omega)
      have HB1 := Lib.hid (show us.length + 1 ≤ maxLen ∧ (us.length + 1) * 24 ≤ 140737488355328 by rw [HUS.out]; have := HKK.out; simp only [maxLen]; omega)
      have hh3 : w6.drew.heap[g3]? = _ := H3.out
      have c1 : w6.drew.cell? ⟨g3, 2, none⟩ = some v := (cell_of hh3).trans rfl
      obtain ⟨vo, vc, hvv, -⟩ := owns_shape RK.out.1
      subst hvv
      have MK := Lib.hid (fun (wx : World) (ux : Value) (kx : Kept Nix w6.drew wx) => And.intro ((cell_of (i := 2) (kx.heap hh3 id)).trans rfl) ((cell_of (i := 2) ((kx.alloc (.cells #[ux] 22)).heap hh3 id)).trans rfl))
      clear hr ys hlt hk hst hh3
      generalize ni ((prs P).map (fun Q => sN Q k)) = Z at *
      go_upto_region 6 with fail
      go_region_law
        (first
          | (refine step_app (wx.alloc (.cells #[.slice xo n xc] 22)) rfl (.tmp 22) (.tmp 25) 48 rfl w1.heap.size 22 (.slice none 0 0) 1 24 Try.underlying48 info_ints rfl (by decide) (.slice vo us.length vc) us.length us rfl OWN.out (some ⟨wx.heap.size, 0, none⟩) 1 1 [.slice xo n xc] rfl (src_one wx _ _ rfl) HB1.out.1 HB1.out.2 HSZ.out ?_
             intro v7 w7 o7 g7 n7
             obtain ⟨v7o, v7c, rfl, -⟩ := owns_shape o7
             obtain ⟨s1, s2, s3, s4⟩ := rack_step3 H3.out RK.out KXA.out (by rw [HLZ.out]; exact OXA.out) o7 g7
             have z7 := frozen_of (i := 2) s1
             have y7 := (cell_of (i := 2) s1).trans rfl
             have KF := Lib.hid ((nix_trans K6.out KXA.out).grown g7 (fun kk hkk => .inr (RK.out.1.lt kk hkk).1))
             have S2 := Lib.hid s2; have S3 := Lib.hid s3; have S4 := Lib.hid s4; clear s1 s2 s3 s4 o7 g7 n7)
          | (go_simp; go_at_call 41; refine PK.out.mono ?_; rintro e wx ⟨ux, rfl, ox, kx⟩; obtain ⟨xo, xc, rfl, -⟩ := owns_shape ox
             obtain ⟨q1, q2⟩ := MK.out wx (.slice xo n xc) kx
             have KXA := Lib.hid (show Kept Nix w6 (wx.alloc (.cells #[.slice xo n xc] 22)) from (nix_trans ((Kept.refl Nix w6).drew) kx).alloc _)
             have OXA := Lib.hid (owns_weak (ox.alloc (.cells #[.slice xo n xc] 22)) (show w1.heap.size ≤ w6.drew.heap.size from K6.out.size))
             have OWN := Lib.hid ((KXA.out.owns RK.out.1 (fun _ _ h => h)))
             have HSZ := Lib.hid (show w1.heap.size ≤ (wx.alloc (.cells #[.slice xo n xc] 22)).heap.size from Nat.le_trans K6.out.size KXA.out.size)
             clear ox kx))
      all_goals
        clear c1 y0 z7 y7 q1 q2
        go_wp2
        rw [HW.out]
        refine ⟨⟨rfl, rfl, rfl, rfl, rfl, rfl, rfl, k + 1, HI.out, rfl, _, _, Lib.hid S2.out, by rw [HST.out]; exact S3.out, S4.out _ _ _ OA.out, S4.out _ _ _ OB.out, KF.out.setCell (p := ⟨g3, 2, none⟩) (.inr HG3.out) _⟩, nearer HI.out rfl⟩
    · have hie : k = K := by omega
      subst hie
      have hdd : decide (k < k) = false := decide_eq_false hlt
      clear hlt hk
      have H2' := Lib.hid (K6.out.heap H2.out id)
      have HNE := Lib.hid (show g2 < w1.heap.size from (Array.getElem?_eq_some_iff.1 H2.out).1)
      have KR := Lib.hid (nix_trans K1.out (nix_trans KA.out K6.out))
      have HGW := Lib.hid (show w.heap.size ≤ g2 by have := HG2.out; omega)
      obtain ⟨vo, vc, rfl, -⟩ := owns_shape RK.out.1
      have KZ := Lib.hid (fun cs => (Kept.refl (One g2) w6).setRow (.inl rfl) cs)
      have hnot : ∀ {e : TypeId} {size : Nat} {x : Value} {m : Nat} {xs : List Value}, w6.ownsRow w1.heap.size e size x m xs → ∀ kk, x.ownBlock = some kk → ¬ One g2 kk := fun h kk hkk he => by have := (own_lt h hkk).1; have h2 : kk = g2 := he; have := HNE.out; omega
      have HW1 := Lib.hid (show w.heap.size ≤ w1.heap.size from (nix_trans K1.out KA.out).size)
      have SM := Lib.hid (fun cs => SumsO.mk (base := w.heap.size) (P := prs P) (K := k) (by rw [HNP.out.1]; exact owns_weak ((KZ.out cs).owns OA.out (hnot OA.out)) HW1.out) (by rw [HNP.out.1]; exact owns_weak ((KZ.out cs).owns OB.out (hnot OB.out)) HW1.out) (Exists.intro _ ((RK.out.other (KZ.out cs) (fun kk cur t hs hh => by
        have h2 : kk = g2 := hs
        subst h2
        rw [H2'.out] at hh
        cases hh
        exact ⟨by decide, by decide⟩)).weak HW1.out)))
      clear hnot
      go_wp2_with (first
        | (refine wpList_load_row rfl 50 _ rfl g3 rfl 50 _ (0, 0) _ H3.out Try.underlying50 rfl size_sums ?_)
        | (refine wpList_store_row rfl 50 _ _ rfl _ _ rfl rfl 50 _ H2'.out size_sums rfl (one_three _ _ _ _ _ _ _ _ _) ?_))
      refine ret_row rfl g2 50 _ (0, 0) _ rfl (heap_row _ H2'.out) Try.underlying50 rfl size_sums rfl ⟨_, _, _, rfl, SM.out _, KR.out.setRow (.inr HGW.out) _⟩

end Go.Proofs.Ytliggpidkdiinaa

namespace Go.Proofs.Ytliggpidkdiinaa
open Go.RowKit Bx

def PlanInv (g3 g6 g10 n m a o : Nat) (wd : Bool) (P : List (List Int)) (w2 : World) (f : Act) (w' : World) : Prop :=
  f.defers = [] ∧ f.tmps.size = 50 ∧ f.tmps[3]? = some (.pointer (some ⟨g3, 0, none⟩)) ∧ f.tmps[6]? = some (.pointer (some ⟨g6, 0, none⟩)) ∧ f.tmps[8]? = some (.int .i64 (m : Int)) ∧ f.tmps[9]? = some (.int .i64 (a : Int)) ∧ f.tmps[10]? = some (.pointer (some ⟨g10, 0, none⟩)) ∧ f.tmps[25]? = some (.int .i64 (n : Int)) ∧
  ∃ i : Nat, i ≤ n ∧ f.tmps[26]? = some (.int .i64 (i : Int)) ∧ f.tmps[11]? = some (.int .i64 ((6 + psm m a (P.take i) : Nat) : Int)) ∧
    ∃ u, Hid (w'.heap[g10]? = some (.cells #[.bool wd, .int .i64 (o : Int), u] 26 (0, 0))) ∧ w'.ownsRow w2.heap.size 39 2 u i (pcs (bps (P.take i) m)) ∧ Kept (One g10) w2 w'

theorem owns_base {w : World} {base base' size : Nat} {e : TypeId} {v : Value} {n : Nat} {xs : List Value} (h : w.ownsRow base e size v n xs) (hb : base' ≤ base) : w.ownsRow base' e size v n xs := by
  refine ⟨h.1, ?_⟩
  rcases h.2 with h2 | ⟨g, cap, cur, e1, e2, e3⟩
  · exact .inl h2
  · exact .inr ⟨g, cap, cur, e1, Nat.le_trans hb e2, e3⟩

/-- What a plan of sums is. -/
def PlanPost (P : List (List Int)) (o : Nat) (wd : Bool) (w : World) (e : Ending) (w' : World) : Prop :=
  ∃ u, e = .returned (.tuple #[.agg #[.bool wd, .int .i64 (o : Int), u], .int .i64 ((6 + psm (wM wd) (wA wd) P : Nat) : Int)]) ∧ w'.ownsRow w.heap.size 39 2 u P.length (pcs (bps P (wM wd))) ∧ Kept Nix w w'

set_option maxRecDepth 10000 in
set_option maxHeartbeats 4000000 in
theorem plan_any (v1 v2 v3 : Value) (P : List (List Int)) (K g o : Nat) (wd : Bool) (w : World) (hS : Sums w v1 v2 v3 P K) (hT : Stp P K g) (hF : Fine P) (hm : wM wd ≤ g) (hg : g ≤ 30) :
    Calls Try.prog 32 #[.agg #[v1, v2, v3], .int .i64 (o : Int), .bool wd] w (PlanPost P o wd w) := by
  have hb := heap_alloc_new w (.cells #[v1, v2, v3] 50)
  have k1 : Kept Nix w (w.alloc (.cells #[v1, v2, v3] 50)) := (Kept.refl _ w).alloc _
  have HB := Lib.hid (fun w' (h : Kept Nix (w.alloc (.cells #[v1, v2, v3] 50)) w') => cells_three (h.heap hb id))
  have K1 := Lib.hid k1
  have SB := Lib.hid (fun (i : Nat) (hi : i < P.length) w' (h : Kept Nix w w') => sbest_any v1 v2 v3 P K g i (wM wd) w' (hS.nix h) hT hF hm hg hi)
  have BN := Lib.hid (fun (i : Nat) (hi : i < P.length) => (best_near (hF.get hi).1 (wM wd)).2.2.1)
  have PF := Lib.hid (fun i => psm_fits hF.nr (wM wd) (wA wd) i (wA_le wd) hF.len hF.all)
  have HLN := Lib.hid hF.len
  obtain ⟨a1, c1, rfl, -⟩ := hS.many.ints
  obtain ⟨a2, c2, rfl, -⟩ := hS.widths.ints
  obtain ⟨a3, c3, rfl, -⟩ := hS.bits.open
  simp only [rws_length, ni_length, List.length_map] at *
  clear hb k1 hS hT hF hm hg
  generalize hn : P.length = n at *
  have HNP := Lib.hid hn
  have KS := Lib.hid (ks_any wd)
  clear hn
  go_enter Try.func32, Try.ntmps32
  go_upto_region 1 with fail
  have KA := Lib.hid ((Kept.refl Nix (w.alloc (.cells #[.slice a1 n c1, .slice a2 n c2, .slice a3 K c3] 50))).alloc (.cells #[.bool false, .int .i64 0, .slice none 0 0] 26))
  have H6 := Lib.hid (heap_alloc_new (w.alloc (.cells #[.slice a1 n c1, .slice a2 n c2, .slice a3 K c3] 50)) (.cells #[.bool false, .int .i64 0, .slice none 0 0] 26))
  have hsz : (w.alloc (.cells #[.slice a1 n c1, .slice a2 n c2, .slice a3 K c3] 50)).heap.size = w.heap.size + 1 := by simp
  rw [hsz] at H6
  generalize (w.alloc (.cells #[.slice a1 n c1, .slice a2 n c2, .slice a3 K c3] 50)).alloc (.cells #[.bool false, .int .i64 0, .slice none 0 0] 26) = w1 at *
  generalize w.alloc (.cells #[.slice a1 n c1, .slice a2 n c2, .slice a3 K c3] 50) = w0 at *
  obtain ⟨g6, hg6⟩ : ∃ g6, w.heap.size + 1 = g6 := ⟨_, rfl⟩
  rw [hg6] at H6 ⊢
  go_upto_region 2 with (go_at_call 18; refine (KS.out _).mono ?_; rintro e w1' ⟨rfl, rfl⟩; clear KS)
  go_upto_region 3 with fail
  have H10 := Lib.hid (heap_alloc_new w1' (.cells #[.bool wd, .int .i64 (o : Int), .slice none 0 0] 26))
  have KB := Lib.hid ((Kept.refl Nix w1').alloc (.cells #[.bool wd, .int .i64 (o : Int), .slice none 0 0] 26))
  have hs2 : (w1'.alloc (.cells #[.bool wd, .int .i64 (o : Int), .slice none 0 0] 26)).heap.size = w1'.heap.size + 1 := by simp
  have HS2 := Lib.hid hs2
  clear hs2
  generalize w1'.alloc (.cells #[.bool wd, .int .i64 (o : Int), .slice none 0 0] 26) = w2 at *
  obtain ⟨g10, hg10⟩ : ∃ g10, w1'.heap.size = g10 := ⟨_, rfl⟩
  rw [hg10] at H10 HS2 ⊢
  have HG := Lib.hid (show g6 < g10 ∧ w.heap.size + 1 = g6 ∧ w1'.heap.size = g10 by
    have h1 := (Array.getElem?_eq_some_iff.1 H6.out).1
    omega)
  obtain ⟨x0, x1, x2⟩ := HB.out w2 (nix_trans KA.out KB.out)
  clear hg10 hg6 hsz
  have HM := Lib.hid (wM_le wd)
  have HA := Lib.hid (wA_le wd)
  generalize hmm : wM wd = m at *
  generalize haa : wA wd = a at *
  have HMD := Lib.hid (And.intro hmm haa)
  clear hmm haa
  go_wp2
  clear x0 x1 x2
  refine wp_loop (PlanInv w.heap.size g6 g10 n m a o wd P w2) (fun f _ => n - (intOf (f.tmps.getD 26 undef)).toNat) ?_ ?_
  · exact ⟨rfl, rfl, rfl, rfl, rfl, rfl, rfl, rfl, 0, Nat.zero_le _, rfl, rfl, _, Lib.hid H10.out, World.ownsRow_nil _ _ _ _, Kept.refl _ _⟩
  · clear H10
    rintro ⟨tm, df⟩ w3 ⟨rfl, hs, e3, e6, e8, e9, e10, e25, i, hi, e26, e11, u, h10, ho, hk⟩
    simp only at hs e3 e6 e8 e9 e10 e25 e26 e11
    obtain ⟨f, hf, hg⟩ := fr_open hs
    have g3' := hg _ _ e3
    have g6' := hg _ _ e6
    have g8' := hg _ _ e8
    have g9' := hg _ _ e9
    have g10' := hg _ _ e10
    have g25' := hg _ _ e25
    have g26' := hg _ _ e26
    have g11' := hg _ _ e11
    simp only [List.range, List.range.loop, List.map] at hf
    rw [g3', g6', g8', g9', g10', g25', g26', g11'] at hf
    clear g3' g6' g8' g9' g10' g25' g26' g11' hg hs e3 e6 e8 e9 e10 e25 e26 e11
    subst hf
    have H10 := Lib.hid h10.out
    have HO := Lib.hid ho
    have HK := Lib.hid hk
    have KN : Kept Nix w1' w3 := KB.out.trans hk (fun _ h => h) (fun j hj h => by have h : j = g10 := h; have := HG.out.2.2; omega)
    have KX := Lib.hid (nix_trans KA.out KN)
    clear h10 ho hk KN
    by_cases hlt : i < n
    · have hdd : decide (i < n) = true := decide_eq_true hlt
      obtain ⟨x0, x1, x2⟩ := HB.out w3 KX.out
      have SI := Lib.hid (SB.out i hlt w3 (nix_trans K1.out KX.out))
      rw [BN.out i hlt] at SI
      have HPS := Lib.hid (psm_step P m a i (by rw [HNP.out]; exact hlt))
      have HBS := Lib.hid (bps_step P m i (by rw [HNP.out]; exact hlt))
      have hpf := PF.out (i + 1)
      rw [HPS.out] at hpf
      have HI := Lib.hid hlt
      have HW := Lib.hid (show wrap64 ((i : Int) + 1) = ((i + 1 : Nat) : Int) by have := HLN.out; rw [w64_in _ (by omega)]; omega)
      obtain ⟨Q, hQ⟩ : ∃ Q, P.getD i [] = Q := ⟨_, rfl⟩
      rw [hQ] at SI HPS HBS hpf
      have e3' : wrap64 ((a : Int) + (cbN Q m : Int)) = (a : Int) + (cbN Q m : Int) := w64_in _ (by omega)
      have e4' : wrap64 (6 + (psm m a (P.take i) : Int) + ((a : Int) + (cbN Q m : Int))) = ((6 + psm m a (P.take (i + 1)) : Nat) : Int) := by rw [HPS.out, w64_in _ (by omega)]; omega
      have E3 := Lib.hid (And.intro e3' e4')
      have E5 := Lib.hid (show i + 1 ≤ maxLen ∧ (i + 1) * 16 ≤ 140737488355328 by have := HLN.out; simp only [maxLen]; omega)
      clear hQ hpf e3' e4' hlt hi SB
      generalize psm m a (P.take i) = z0 at *
      generalize hz1 : psm m a (P.take (i + 1)) = z1 at *
      have HZ1 := Lib.hid hz1
      clear hz1
      generalize cbN Q m = cn at *
      generalize bestK Q m = bk' at *
      generalize bestR Q m = br' at *
      go_upto_region 8 with (go_at_call 40; refine SI.out.mono ?_; rintro e w4 ⟨rfl, k4⟩; have K4 := Lib.hid k4; clear k4 SI)
      have PC := Lib.hid (part_cells w4 bk' br' 39)
      have K5 := Lib.hid (nix_trans K4.out ((Kept.refl Nix w4).alloc (.cells #[.int .i64 bk', .bool br'] 39)))
      generalize w4.alloc (.cells #[.int .i64 bk', .bool br'] 39) = w5 at *
      generalize w4.heap.size = g13 at *
      obtain ⟨p1, p2, p3⟩ := PC.out w5 (Kept.refl _ _)
      have hh5 := K5.out.heap H10.out id
      have y2 : w5.cell? ⟨g10, 2, none⟩ = some u := (cell_of hh5).trans rfl
      have O5 := Lib.hid ((K5.out.owns HO.out (fun _ _ h => h)).alloc (.cells #[.int .i64 bk', .bool br'] 39))
      have K6 := Lib.hid (K5.out.alloc (.cells #[.int .i64 bk', .bool br'] 39))
      have HBSZ := Lib.hid (show w2.heap.size ≤ (w5.alloc (.cells #[.int .i64 bk', .bool br'] 39)).heap.size from Nat.le_trans HK.out.size K6.out.size)
      have KW6 := Lib.hid (HK.out.trans K6.out (fun _ h => h) (fun _ _ h => absurd h id))
      have H10B := Lib.hid (K6.out.heap H10.out id)
      have HLT6 := Lib.hid (Array.getElem?_eq_some_iff.1 H10B.out).1
      have HUN := Lib.hid (show u.ownBlock ≠ some g10 from fun h => by have := (own_lt HO.out h).1; have := HS2.out; omega)
      have HUL := Lib.hid (fun kk (h : u.ownBlock = some kk) => (own_lt HO.out h).1)
      clear p3 hh5 hdd x0 x1 x2 PC
      go_wp2_with (
        refine wpList_app _ rfl _ _ 24 rfl w2.heap.size 39 (.agg #[.int .i64 0, .bool false]) 2 16 Try.underlying24 info_part rfl (by decide) _ _ _ rfl O5.out _ 1 1 [.int .i64 bk', .bool br'] rfl (src_part w5 _ _ _ rfl rfl) E5.out.1 E5.out.2 HBSZ.out ?_
        intro v6 w6 o6 g6x n6
        have k6 : Kept (One g10) w2 w6 := KW6.out.grown g6x (fun kk hkk => .inr (HUL.out kk hkk))
        have h6 := (g6x.block g10 HLT6.out (fun e => HUN.out e.symm)).trans H10B.out
        have z2 := frozen_of (i := 2) h6
        have c2' := (cell_of (i := 2) h6).trans rfl
        obtain ⟨vo, vc, rfl, -⟩ := owns_shape o6
        have KK6 := Lib.hid k6; have O6 := Lib.hid o6; have HH6 := Lib.hid h6; clear k6 o6 g6x n6 h6)
      rw [E3.out.1, E3.out.2, HW.out]
      refine ⟨⟨rfl, rfl, rfl, rfl, rfl, rfl, rfl, rfl, i + 1, HI.out, rfl, by rw [HZ1.out]; rfl, .slice vo (i + 1) vc, Lib.hid (heap_set HH6.out), ?_, KK6.out.setCell (p := ⟨g10, 2, none⟩) (.inl rfl) _⟩, nearer HI.out rfl⟩
      rw [HBS.out, pcs_append]
      refine ((Kept.refl (One g10) w6).setCell (p := ⟨g10, 2, none⟩) (.inl rfl) _).owns O6.out (fun kk hkk he => ?_)
      have := (own_lt O6.out hkk).1
      have := HS2.out
      have h : kk = g10 := he
      omega
    · have hie : i = n := by omega
      subst hie
      have hdd : decide (i < i) = false := decide_eq_false hlt
      rw [show P.take i = P by rw [← HNP.out, List.take_length]] at HO ⊢
      obtain ⟨uo, uc, rfl, -⟩ := owns_shape HO.out
      have H6' := Lib.hid (HK.out.heap (KB.out.heap H6.out id) (fun h => by have h : g6 = g10 := h; have := HG.out; omega))
      have HNE := Lib.hid (show g10 ≠ g6 by have := HG.out; omega)
      have KR := Lib.hid (nix_trans K1.out KX.out)
      have HGW := Lib.hid (show w.heap.size ≤ g6 ∧ w.heap.size ≤ w2.heap.size by
        have h1 := K1.out.size
        have h2 := KB.out.size
        have h3 := KA.out.size
        have h4 := HG.out
        omega)
      clear hlt hi
      have HMD1 := Lib.hid HMD.out.1
      have HZ := Lib.hid (show psm (wM wd) (wA wd) P = psm m a P by rw [HMD.out.1, HMD.out.2])
      generalize psm m a P = z at *
      go_wp2_with (first
        | (refine wpList_load_row rfl 26 _ rfl g10 rfl 26 _ (0, 0) _ H10.out Try.underlying26 rfl size_plan ?_)
        | (refine wpList_store_row rfl 26 _ _ rfl _ _ rfl rfl 26 _ H6'.out size_plan rfl (one_plan _ _ _ _ _) ?_))
      refine bodyPost_ret (results_plan1 rfl _ _ g6 _ ((6 + z : Nat) : Int) rfl (heap_row _ H6'.out) rfl rfl) rfl ⟨.slice uo i uc, by rw [HZ.out], ?_, KR.out.setRow (.inr HGW.out.1) _⟩
      rw [HMD1.out, HNP.out]
      exact owns_base (((Kept.refl (One g6) w3).setRow (.inl rfl) _).owns HO.out (fun kk hkk he => by have := (own_lt HO.out hkk).1; have := HS2.out; have := HG.out; have h : kk = g6 := he; omega)) HGW.out.2

end Go.Proofs.Ytliggpidkdiinaa
