/- Plans in memory: a slice of parts, wherever it lies; a plan as a whole, as a result beside numbers, put into a variable. -/
import Derived.Test.YtliggpidkdiinaaPartLow
import Derived.Test.YtliggpidkdiinaaRCost3
import Derived.Test.YtliggpidkdiinaaRackI
namespace Go.Proofs.Ytliggpidkdiinaa
open Go.RowKit Bx

/-- A slice of parts that reads as this list. -/
def Pts (w : World) (v : Value) (ps : List (Int × Bool)) : Prop :=
  ∃ (ao : Option Addr) (cap : Nat), v = .slice ao ps.length cap ∧ ps.length ≤ cap ∧ cap ≤ maxLen ∧
    (0 < ps.length → ∃ b off, ao = some ⟨b, off, none⟩ ∧ b < w.heap.size ∧ ∀ j, j < ps.length → w.cell? ⟨b, off + j * 2, none⟩ = some (.int .i64 (ps.getD j (0, false)).1) ∧ w.cell? ⟨b, off + j * 2 + 1, none⟩ = some (.bool (ps.getD j (0, false)).2))

theorem Pts.nix {w w' : World} {v : Value} {ps : List (Int × Bool)} (h : Pts w v ps) (hk : Kept Nix w w') : Pts w' v ps := by
  obtain ⟨ao, cap, e, h1, h2, h3⟩ := h
  refine ⟨ao, cap, e, h1, h2, fun h0 => ?_⟩
  obtain ⟨b, off, e2, hb, hc⟩ := h3 h0
  have hbl := hk.block b hb id
  exact ⟨b, off, e2, Nat.lt_of_lt_of_le hb hk.size, fun j hj => ⟨(World.cell?_of_block hbl).trans (hc j hj).1, (World.cell?_of_block hbl).trans (hc j hj).2⟩⟩

theorem pts_of_owns {w : World} {base : Nat} {v : Value} {ps : List (Int × Bool)} (h : w.ownsRow base 39 2 v ps.length (pcs ps)) : Pts w v ps := by
  by_cases h0 : ps.length = 0
  · rcases h.2 with ⟨rfl, _⟩ | ⟨g, cap, cur, rfl, hb, hg, hc, hm, -⟩
    · exact ⟨none, 0, by rw [h0], by omega, by simp [maxLen], fun h => by omega⟩
    · exact ⟨_, cap, rfl, hc, hm, fun h => by omega⟩
  · obtain ⟨b, cap, rfl, hc1, hcm, hbb, -⟩ := owns_pos h (by omega)
    have hlt := (h.lt b rfl).2
    exact ⟨_, cap, rfl, hc1, hcm, fun _ => ⟨b, 0, rfl, hlt, fun j hj => by rw [Nat.zero_add]; exact part_in h j hj w (Kept.refl _ _)⟩⟩

theorem Pts.len {w : World} {v : Value} {ps : List (Int × Bool)} (h : Pts w v ps) : ∃ ao cap, v = .slice ao ps.length cap ∧ Pts w (.slice ao ps.length cap) ps := by
  obtain ⟨ao, cap, rfl, h1⟩ := h
  exact ⟨ao, cap, rfl, ao, cap, rfl, h1⟩

theorem Pts.at {w : World} {ao : Option Addr} {n cap : Nat} {ps : List (Int × Bool)} (h : Pts w (.slice ao n cap) ps) (i : Nat) (hi : i < ps.length) : ∃ b off, ao = some ⟨b, off, none⟩ ∧ ∀ w', Kept Nix w w' → w'.cell? ⟨b, off + i * 2, none⟩ = some (.int .i64 (ps.getD i (0, false)).1) ∧ w'.cell? ⟨b, off + i * 2 + 1, none⟩ = some (.bool (ps.getD i (0, false)).2) := by
  obtain ⟨ao', cap', e, h1, h2, h3⟩ := h
  simp only [Value.slice.injEq] at e
  obtain ⟨rfl, rfl, rfl⟩ := e
  obtain ⟨b, off, e2, hb, hc⟩ := h3 (by omega)
  refine ⟨b, off, e2, fun w' hk => ?_⟩
  have hbl := hk.block b hb id
  exact ⟨(World.cell?_of_block hbl).trans (hc i hi).1, (World.cell?_of_block hbl).trans (hc i hi).2⟩

theorem size_plan : (Try.prog.info? 26).map (·.size) = some 3 := by kernel_rfl
theorem one_plan (wd : Bool) (o : Int) (ao : Option Addr) (n c : Nat) : (#[.bool wd, .int .i64 o, .slice ao n c] : Array Value).all (·.oneCell') = true := by simp [Value.oneCell']

theorem put_st (w : World) (cs cs' : Array Value) (t : TypeId) : ∀ w3, w3 = (w.alloc (.cells cs t)).setRow w.heap.size cs' → Kept Nix w w3 ∧ ∀ w', Kept Nix w3 w' → w'.heap[w.heap.size]? = some (.cells cs' t (0, 0)) := by
  rintro w3 rfl
  exact ⟨((Kept.refl _ w).alloc _).setRow (.inr (Nat.le_refl _)) _, fun w' hk => hk.heap (heap_row cs' (heap_alloc_new w (.cells cs t))) id⟩

theorem cells_part {w : World} {g : Nat} {k : Int} {r : Bool} {t : TypeId} (h : w.heap[g]? = some (.cells #[.int .i64 k, .bool r] t (0, 0))) : w.cell? ⟨g, 0, none⟩ = some (.int .i64 k) ∧ w.cell? ⟨g, 1, none⟩ = some (.bool r) :=
  ⟨by rw [cell_of h]; rfl, by rw [cell_of h]; rfl⟩

theorem cells_three {w : World} {g : Nat} {x y z : Value} {t : TypeId} (h : w.heap[g]? = some (.cells #[x, y, z] t (0, 0))) : w.cell? ⟨g, 0, none⟩ = some x ∧ w.cell? ⟨g, 1, none⟩ = some y ∧ w.cell? ⟨g, 2, none⟩ = some z :=
  ⟨by rw [cell_of h]; rfl, by rw [cell_of h]; rfl, by rw [cell_of h]; rfl⟩

/-- The rows of a slice of slices, in any world that kept it. -/
theorem Chs.row {w : World} {ao : Option Addr} {n cap : Nat} {L : List (List Int)} (h : Chs w (.slice ao n cap) L) (i : Nat) (hi : i < L.length) : ∃ b off, ao = some ⟨b, off, none⟩ ∧ ∃ ro rc, ∀ w', Kept Nix w w' → w'.cell? ⟨b, off + i, none⟩ = some (.slice ro (L.getD i []).length rc) ∧ Sl w' (.slice ro (L.getD i []).length rc) (ivs (L.getD i [])) := by
  obtain ⟨b, off, rfl, hb, A, C, hh⟩ := h.at (by omega)
  obtain ⟨h1, h2⟩ := hh i hi
  exact ⟨b, off, rfl, A i, C i, fun w' hk => ⟨(World.cell?_of_block (hk.block b hb id)).trans h1, h2.nix hk⟩⟩

/-- A result of two: a part that lives in memory, and a number. -/
theorem results_part1 {fn : Func} {p u : Tmp} (h : fn.results = #[.cell p 39, .tmp u]) (tmps : Array Value) (w : World) (g : Nat) (cs : Array Value) (x : Int)
    (hp : tmps.getD p undef = .pointer (some ⟨g, 0, none⟩)) (hg : w.heap[g]? = some (.cells cs 39 (0, 0))) (hc : cs.size = 2) (hu : tmps.getD u undef = .int .i64 x) :
    (results fn tmps).run Try.prog w = .ok (.tuple #[.agg cs, .int .i64 x]) w := by
  have h1 := run_loadVar_row (P := Try.prog) w g 39 39 cs (0, 0) _ hg Try.underlying39 rfl (by rw [hc]; exact size_part)
  rw [results_cell_tmp h, hp, hu]
  simp [asAddr, h1, Result.andThen]

theorem results_plan1 {fn : Func} {p u : Tmp} (h : fn.results = #[.cell p 26, .tmp u]) (tmps : Array Value) (w : World) (g : Nat) (cs : Array Value) (x : Int)
    (hp : tmps.getD p undef = .pointer (some ⟨g, 0, none⟩)) (hg : w.heap[g]? = some (.cells cs 26 (0, 0))) (hc : cs.size = 3) (hu : tmps.getD u undef = .int .i64 x) :
    (results fn tmps).run Try.prog w = .ok (.tuple #[.agg cs, .int .i64 x]) w := by
  have h1 := run_loadVar_row (P := Try.prog) w g 26 26 cs (0, 0) _ hg Try.underlying26 rfl (by rw [hc]; exact size_plan)
  rw [results_cell_tmp h, hp, hu]
  simp [asAddr, h1, Result.andThen]

theorem results_plan2 {fn : Func} {p u v : Tmp} (h : fn.results = #[.cell p 26, .tmp u, .tmp v]) (tmps : Array Value) (w : World) (g : Nat) (cs : Array Value) (x y : Int)
    (hp : tmps.getD p undef = .pointer (some ⟨g, 0, none⟩)) (hg : w.heap[g]? = some (.cells cs 26 (0, 0))) (hc : cs.size = 3) (hu : tmps.getD u undef = .int .i64 x) (hv : tmps.getD v undef = .int .i64 y) :
    (results fn tmps).run Try.prog w = .ok (.tuple #[.agg cs, .int .i64 x, .int .i64 y]) w := by
  have h1 := run_loadVar_row (P := Try.prog) w g 26 26 cs (0, 0) _ hg Try.underlying26 rfl (by rw [hc]; exact size_plan)
  simp only [Array.getD_eq_getD_getElem?] at hp hu hv
  simp only [results, h]
  simp [hp, asAddr, h1, hu, hv, Result.andThen]

theorem elem_rows : Try.prog.elem 48 = 22 := by kernel_rfl

theorem size_intsw (w : World) : (sizeOf 22).run Try.prog w = .ok 1 w := by
  obtain ⟨i, hi, hz, hsize, hby⟩ := info_parts info_ints
  simp [sizeOf, typeInfo, hi, hsize]

/-- A slice of rows up to k. -/
theorem run_upto_rw (w : World) (ao : Option Addr) (len cap k : Nat) (h : k ≤ cap) : (Instr.slice 48 (.slice ao len cap) none (some (.int .i64 (k : Int))) none).run Try.prog w = .ok (.slice ao k cap) w := by
  have ht : Try.prog.underlying 48 = some (.slice (Try.prog.elem 48)) := by rw [elem_rows]; exact Try.underlying48
  rw [run_slice_h w 48 ao len cap ht .i64 (k : Int) (by omega) (by omega), elem_rows, size_intsw]
  cases ao with
  | none => simp [sliced]
  | some a => simp [sliced, Addr.add]

end Go.Proofs.Ytliggpidkdiinaa
