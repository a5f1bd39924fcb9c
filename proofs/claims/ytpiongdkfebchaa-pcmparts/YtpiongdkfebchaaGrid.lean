/- Channels of the call's own: a slice of slices, each in a block of its own. -/
import Derived.Test.YtpiongdkfebchaaChs
import Derived.Test.YtpiongdkfebchaaPcmCheck
namespace Go.Proofs.Ytpiongdkfebchaa
open Go.RowKit

def irow (M : Nat) (g : Nat) : Value := .slice (some ⟨g, 0, none⟩) M M
/-- A slice of slices, each of M integers, in blocks from base on, no two in one. -/
def Grid (base : Nat) (w : World) (v : Value) (M : Nat) (rs : List Nat) (L : List (List Int)) : Prop :=
  w.ownsRow base 45 1 v rs.length (rs.map (irow M)) ∧ rs.length = L.length ∧ M ≤ maxLen ∧
  (∀ c, c < rs.length → base ≤ rs.getD c 0 ∧ w.heap[rs.getD c 0]? = some (.cells (ivs (L.getD c [])).toArray 3 (0, 0)) ∧ (L.getD c []).length = M) ∧
  (∀ a b, a < rs.length → b < rs.length → rs.getD a 0 = rs.getD b 0 → a = b)

theorem sl_block {w : World} {g M : Nat} {zs : List Int} {t : TypeId} {fr : Nat × Nat} (h : w.heap[g]? = some (.cells (ivs zs).toArray t fr)) (hl : zs.length = M) (hM : M ≤ maxLen) : Sl w (irow M g) (zs.map (Value.int .i64)) := by
  subst hl
  refine ⟨_, zs.length, by simp [irow], by simp, hM, fun h => by simp at h, fun _ => ⟨g, 0, rfl, lt_of_heap h, fun j u hu => ?_⟩⟩
  rw [Nat.zero_add, cell_of h, List.getElem?_toArray]
  exact hu

theorem Grid.chs {base : Nat} {w : World} {v : Value} {M : Nat} {rs : List Nat} {L : List (List Int)} (h : Grid base w v M rs L) : Chs w v L := by
  obtain ⟨h1, h2, h3, h4, _⟩ := h
  refine ⟨rs.map (irow M), sl_of_owns h1, by simp [h2], fun i hi => ?_⟩
  have hi' : i < rs.length := by omega
  obtain ⟨_, hb, hl⟩ := h4 i hi'
  exact ⟨irow M (rs.getD i 0), by simp [List.getD, hi'], sl_block hb hl h3⟩

theorem Grid.kept {base : Nat} {w w' : World} {v : Value} {M : Nat} {rs : List Nat} {L : List (List Int)} (h : Grid base w v M rs L) (hk : Kept Nix w w') : Grid base w' v M rs L := by
  obtain ⟨h1, h2, h3, h4, h5⟩ := h
  exact ⟨hk.owns h1 (fun _ _ h => h), h2, h3, fun c hc => by obtain ⟨a, b, e⟩ := h4 c hc; exact ⟨a, hk.heap b id, e⟩, h5⟩

theorem Grid.ownBlock_heap {base : Nat} {w : World} {v : Value} {M : Nat} {rs : List Nat} {L : List (List Int)} (h : Grid base w v M rs L) {k : Nat} (hk : v.ownBlock = some k) : ∃ cur, w.heap[k]? = some (.cells cur 45 (0, 0)) := by
  rcases h.1.2 with ⟨rfl, _⟩ | ⟨g, cap, cur, rfl, _, hg, _⟩
  · cases hk
  · cases hk
    exact ⟨cur, hg⟩

/-- A block that is no part of it may turn. -/
theorem Grid.other {base : Nat} {w w' : World} {v : Value} {M : Nat} {rs : List Nat} {L : List (List Int)} (h : Grid base w v M rs L) {S : Nat → Prop} (hk : Kept S w w') (hS : ∀ k cur t, S k → w.heap[k]? = some (.cells cur t (0, 0)) → t ≠ 45 ∧ t ≠ 3) : Grid base w' v M rs L := by
  have h' := h
  obtain ⟨h1, h2, h3, h4, h5⟩ := h
  refine ⟨hk.owns h1 (fun k hb hs => ?_), h2, h3, fun c hc => ?_, h5⟩
  · obtain ⟨cur, hg⟩ := h'.ownBlock_heap hb
    exact (hS k _ _ hs hg).1 rfl
  · obtain ⟨a, b, e⟩ := h4 c hc
    exact ⟨a, hk.heap b (fun hs => (hS _ _ _ hs b).2 rfl), e⟩

theorem Grid.ownFrom {β : Type} {base B : Nat} {M : Nat} {rs : List Nat} {f : β → List (List Int)} {v : Value} : OwnFrom B (fun s W => Grid base W v M rs (f s)) := by
  intro s W W' row hs hg hr
  have hk : Kept (fun k => row = some k) W W' := ⟨hg.os, hg.tape, hg.output, hg.size, fun k hk hn => hg.block k hk (fun e => hn e.symm)⟩
  refine hs.other hk (fun k cur t hk' hh => ?_)
  obtain ⟨_, o, ho, hc⟩ := hr k hk'
  rw [hh] at ho
  cases ho
  cases hc

def gridF (C M : Nat) (φ : Nat → Nat → Int) : List (List Int) := (List.range C).map (fun c => (List.range M).map (fun i => φ c i))

theorem gridF_length (C M : Nat) (φ : Nat → Nat → Int) : (gridF C M φ).length = C := by simp [gridF]
theorem gridF_row (C M : Nat) (φ : Nat → Nat → Int) {c : Nat} (h : c < C) : (gridF C M φ).getD c [] = (List.range M).map (fun i => φ c i) := by simp [gridF, List.getD, h]
theorem gridF_row_len (C M : Nat) (φ : Nat → Nat → Int) {c : Nat} (h : c < C) : ((gridF C M φ).getD c []).length = M := by rw [gridF_row C M φ h]; simp
theorem gridF_congr (C M : Nat) {φ ψ : Nat → Nat → Int} (h : ∀ c i, c < C → i < M → φ c i = ψ c i) : gridF C M φ = gridF C M ψ := by
  unfold gridF
  apply List.map_congr_left
  intro c hc
  apply List.map_congr_left
  intro i hi
  exact h c i (List.mem_range.1 hc) (List.mem_range.1 hi)

def upd (φ : Nat → Nat → Int) (c i : Nat) (n : Int) : Nat → Nat → Int := fun c' i' => if c' = c ∧ i' = i then n else φ c' i'

theorem row_set (M i : Nat) (φ : Nat → Nat → Int) (c : Nat) (n : Int) : (ivs ((List.range M).map (fun j => φ c j))).toArray.setIfInBounds i (.int .i64 n) = (ivs ((List.range M).map (fun j => upd φ c i n c j))).toArray := by
  rw [List.setIfInBounds_toArray]
  congr 1
  apply List.ext_getElem?
  intro j
  rw [List.getElem?_set]
  simp only [ivs, List.getElem?_map, List.length_map, List.length_range]
  by_cases hj : j < M
  · by_cases hij : i = j
    · subst hij
      simp [hj, upd]
    · have hji : ¬ j = i := fun e => hij e.symm
      simp [hj, upd, hij, hji]
  · have hj2 : (List.range M)[j]? = none := by simp; omega
    rw [hj2]
    by_cases hij : i = j
    · subst hij; simp [hj]
    · simp [hij]

/-- A sample is stored. -/
theorem Grid.set {base : Nat} {w : World} {v : Value} {C M : Nat} {rs : List Nat} {φ : Nat → Nat → Int} (h : Grid base w v M rs (gridF C M φ)) {c i : Nat} (hc : c < C) (n : Int) :
    Grid base (w.setCell ⟨rs.getD c 0, i, none⟩ (.int .i64 n)) v M rs (gridF C M (upd φ c i n)) := by
  have h' := h
  obtain ⟨h1, h2, h3, h4, h5⟩ := h
  rw [gridF_length] at h2
  have hk : Kept (One (rs.getD c 0)) w (w.setCell ⟨rs.getD c 0, i, none⟩ (.int .i64 n)) := Kept.setCell (S := One (rs.getD c 0)) (Kept.refl _ _) (p := ⟨rs.getD c 0, i, none⟩) (.inl rfl) _
  refine ⟨hk.owns h1 (fun k hb hs => ?_), by rw [gridF_length]; exact h2, h3, fun c' hc' => ?_, h5⟩
  · obtain ⟨cur, hg⟩ := h'.ownBlock_heap hb
    have hs' : k = rs.getD c 0 := hs
    subst hs'
    have := (h4 c (by omega)).2.1
    rw [hg] at this
    simp at this
  · obtain ⟨a, b, e⟩ := h4 c' hc'
    refine ⟨a, ?_, by rw [gridF_row_len _ _ _ (by omega)]⟩
    by_cases hcc : c' = c
    · subst hcc
      rw [heap_set b, gridF_row _ _ _ (by omega), gridF_row _ _ _ (by omega)]
      rw [row_set]
    · have hne : rs.getD c' 0 ≠ rs.getD c 0 := fun e => hcc (h5 c' c hc' (by omega) e)
      rw [gridF_row _ _ _ (by omega)] at b ⊢
      refine (heap_set_other (p := ⟨rs.getD c 0, i, none⟩) hne).trans (b.trans ?_)
      rw [show (fun i_1 => upd φ c i n c' i_1) = (fun i_1 => φ c' i_1) from by funext j; simp [upd, hcc]]

end Go.Proofs.Ytpiongdkfebchaa
