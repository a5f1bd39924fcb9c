/- What a law is told of a slice of slices of integers: as a list of slices, each a list of integers. -/
import Derived.Test.YtliggpidkdiinaaArgs
import Derived.Deep.Matrix
namespace Go.Proofs.Ytliggpidkdiinaa
open Go.RowKit Go.ChangeShapes Go.WideShapes Go.ChangeAt

/-- A slice of slices as they are told to a walk. -/
def Rws (w : World) (v : Value) (k : IntKind) (vs : List Value) : Prop := Sl w v vs ∧ ∀ u ∈ vs, ∃ zs : List Int, Sl w u (zs.map (Value.int k)) ∧ ∀ n ∈ zs, (Lit.int k n).wf = true

theorem arg_rows {H : Type} {enc : TypeId × Value → H} {P : Program} {W : World} {t e q : TypeId} {k : IntKind} {a0 : Option Addr} {len0 cap0 : Nat} {d : DataW H} {p : List MemPlace}
    (ht : P.underlying t = some (.slice e)) (he : P.underlying e = some (.slice q)) (hq : P.underlying q = some (.int k)) (ce : P.cellsOf e = 1) (cq : P.cellsOf q = 1)
    (h : DataW.Trod enc P W 0 (fun _ => true) true t (.slice a0 len0 cap0) d p) : ∃ vs : List Value, Rws W (.slice a0 len0 cap0) k vs := by
  obtain ⟨fuel, hf⟩ := h
  rcases Deep.open_int_rows ht he hq ce cq hf with ⟨hcs, _⟩ | ⟨x, l, c, A, L, C, Z, hcs, _, hl, hm, _, hr⟩
  · simp [Value.cells] at hcs
    obtain ⟨rfl, rfl, rfl⟩ := hcs
    exact ⟨[], ⟨none, 0, rfl, Nat.le_refl _, by simp [maxLen], fun _ => rfl, fun h => by simp at h⟩, fun u hu => by simp at hu⟩
  · simp [Value.cells] at hcs
    obtain ⟨rfl, rfl, rfl⟩ := hcs
    refine ⟨(List.range len0).map (fun r => .slice (A r) (L r) (C r)), sl_of_cells (W := W) (a := x) (len := len0) _ hl hm (fun i hi => (hr i hi).1), ?_⟩
    intro u hu
    obtain ⟨r, hr', rfl⟩ := List.mem_map.1 hu
    have hrl : r < cap0 := Nat.lt_of_lt_of_le (List.mem_range.1 hr') hl
    obtain ⟨_, h1, h2, h3, h4, h5, h6⟩ := hr r hrl
    refine ⟨(Z r).take (L r), ?_, fun n hn => h4 n (List.mem_of_mem_take hn)⟩
    cases hA : A r with
    | none =>
      have hc0 := h5 hA
      have hl0 : L r = 0 := by omega
      rw [hl0, hc0]
      exact ⟨none, 0, by simp, by simp, by simp [maxLen], fun _ => rfl, fun h => by simp at h⟩
    | some a' =>
      have hcell := (h6 a' hA).2
      have hs := sl_of_cells (W := W) (a := a') (len := L r) (fun i => Value.int k ((Z r).getD i 0)) h1 h2 hcell
      have e1 : (List.range (L r)).map (fun i => Value.int k ((Z r).getD i 0)) = ((Z r).take (L r)).map (Value.int k) := by
        apply List.ext_getElem
        · simp; omega
        · intro i g1 g2
          simp at g1 g2
          simp [List.getD, show i < (Z r).length by omega]
      rwa [e1] at hs

end Go.Proofs.Ytliggpidkdiinaa
