/- What a law is told of its arguments: slices of integers and of bools, as lists, wherever they lie. -/
import Derived.Test.YtliggpidkdiinaaSlice
import Derived.ProofKit
import Derived.Deep.Grids
import Derived.OpenShut
namespace Go.Proofs.Ytliggpidkdiinaa
open Go.RowKit Go.ChangeShapes Go.WideShapes Go.ChangeAt

/-- A slice argument as a list of cells. -/
theorem sl_of_cells {W : World} {a : Addr} {len cap : Nat} (V : Nat → Value) (hl : len ≤ cap) (hm : cap ≤ maxLen) (hc : ∀ i, i < cap → W.cell? (a.add i) = some (V i)) :
    Sl W (.slice (some a) len cap) ((List.range len).map V) := by
  refine ⟨some a, cap, by simp, by simpa using hl, hm, fun h => by simp at h, fun h0 => ?_⟩
  simp only [List.length_map, List.length_range] at h0
  have h1 := hc 0 (by omega)
  obtain ⟨b, off, spot⟩ := a
  have hspot : spot = none := by simpa [Addr.add] using World.cell?_spot h1
  subst hspot
  refine ⟨b, off, rfl, ?_, fun j u hu => ?_⟩
  · have := World.block_lt_of_cell? W _ h1
    simpa [Addr.add] using this
  · have hj := (List.getElem?_eq_some_iff.1 hu).1
    simp only [List.length_map, List.length_range] at hj
    have h2 := hc j (by omega)
    rw [Addr.add_lit] at h2
    rw [h2]
    simp [hj] at hu
    rw [hu]

theorem arg_ints {H : Type} {enc : TypeId × Value → H} {P : Program} {W : World} {t e : TypeId} {k : IntKind} {a0 : Option Addr} {len0 cap0 : Nat} {d : DataW H} {p : List MemPlace}
    (ht : P.underlying t = some (.slice e)) (he : P.underlying e = some (.int k)) (hc : P.cellsOf e = 1) (h : DataW.Trod enc P W 0 (fun _ => true) true t (.slice a0 len0 cap0) d p) :
    ∃ zs : List Int, Sl W (.slice a0 len0 cap0) (zs.map (Value.int k)) ∧ ∀ n ∈ zs, (Lit.int k n).wf = true := by
  obtain ⟨fuel, hf⟩ := h
  rcases open_ints ht he hc hf with ⟨hcs, _⟩ | ⟨x, l, c, zs, hcs, _, hl, hm, hz, _, hcell, hwz⟩
  · simp [Value.cells] at hcs
    obtain ⟨rfl, rfl, rfl⟩ := hcs
    exact ⟨[], ⟨none, 0, rfl, Nat.le_refl _, by simp [maxLen], fun _ => rfl, fun h => by simp at h⟩, by simp⟩
  · simp [Value.cells] at hcs
    obtain ⟨rfl, rfl, rfl⟩ := hcs
    have hz' : zs.length = cap0 := by simpa using hz
    refine ⟨zs.take len0, ?_, fun n hn => hwz n (List.mem_of_mem_take hn)⟩
    have h1 := sl_of_cells (W := W) (a := x) (len := len0) (fun i => Value.int k (zs.getD i 0)) hl hm (fun i hi => hcell i (by omega))
    have e1 : (List.range len0).map (fun i => Value.int k (zs.getD i 0)) = (zs.take len0).map (Value.int k) := by
      apply List.ext_getElem
      · simp; omega
      · intro i h1 h2
        simp at h1 h2
        simp [List.getD, show i < zs.length by omega]
    rwa [e1] at h1

theorem arg_bools {H : Type} {enc : TypeId × Value → H} {P : Program} {W : World} {t e : TypeId} {a0 : Option Addr} {len0 cap0 : Nat} {d : DataW H} {p : List MemPlace}
    (ht : P.underlying t = some (.slice e)) (he : P.underlying e = some .bool) (hc : P.cellsOf e = 1) (h : DataW.Trod enc P W 0 (fun _ => true) true t (.slice a0 len0 cap0) d p) :
    ∃ bs : List Bool, Sl W (.slice a0 len0 cap0) (bs.map Value.bool) := by
  obtain ⟨fuel, hf⟩ := h
  rcases Deep.open_bools ht he hc hf with ⟨hcs, _⟩ | ⟨x, l, c, B, hcs, _, hl, hm, _, hcell⟩
  · simp [Value.cells] at hcs
    obtain ⟨rfl, rfl, rfl⟩ := hcs
    exact ⟨[], none, 0, rfl, Nat.le_refl _, by simp [maxLen], fun _ => rfl, fun h => by simp at h⟩
  · simp [Value.cells] at hcs
    obtain ⟨rfl, rfl, rfl⟩ := hcs
    refine ⟨(List.range len0).map B, ?_⟩
    have h1 := sl_of_cells (W := W) (a := x) (len := len0) (fun i => Value.bool (B i)) hl hm hcell
    rw [List.map_map]
    exact h1

/-- A slice of bytes that came in, as a list of numbers. -/
theorem Sl.nats {w : World} {v : Value} {zs : List Int} (h : Sl w v (zs.map (Value.int .u8))) (hw : ∀ n ∈ zs, (Lit.int .u8 n).wf = true) : ∃ B : List Nat, Sl w v (u8s B) ∧ (∀ b ∈ B, b < 256) ∧ B.length = zs.length := by
  have hr : ∀ n ∈ zs, 0 ≤ n ∧ n ≤ 255 := fun n hn => bounds_u8 (hw n hn)
  refine ⟨zs.map Int.toNat, ?_, ?_, by simp⟩
  · have e : u8s (zs.map Int.toNat) = zs.map (Value.int .u8) := by
      simp only [u8s, List.map_map]
      apply List.map_congr_left
      intro n hn
      have := hr n hn
      simp [Int.toNat_of_nonneg this.1]
    rwa [e]
  · intro b hb
    obtain ⟨n, hn, rfl⟩ := List.mem_map.1 hb
    have := hr n hn
    omega

theorem nat_u8 {a : Int} (h : (Lit.int .u8 a).wf = true) : ∃ n : Nat, a = (n : Int) ∧ n < 256 := by
  have := bounds_u8 h
  exact ⟨a.toNat, by omega, by omega⟩
theorem nat_u16 {a : Int} (h : (Lit.int .u16 a).wf = true) : ∃ n : Nat, a = (n : Int) ∧ n < 65536 := by
  have := bounds_u16 h
  exact ⟨a.toNat, by omega, by omega⟩

end Go.Proofs.Ytliggpidkdiinaa
