/- The reference of layer 6: Unbytes. -/
import Derived.Test.YtpiongdkfebchaaRefSamp
import Derived.Test.YtpiongdkfebchaaUnbMath
import Derived.Test.YtpiongdkfebchaaRack
import Derived.Test.YtpiongdkfebchaaPcmJoin
namespace Go.Proofs.Ytpiongdkfebchaa
open Go.RowKit Bx

/-- The samples of a channel among the first t. -/
def col (f : Nat → Int) (C t c : Nat) : List Int := ((List.range t).filter (fun k => k % C == c)).map f

theorem col_zero (f : Nat → Int) (C c : Nat) : col f C 0 c = [] := rfl

theorem col_same (f : Nat → Int) (C t : Nat) : col f C (t + 1) (t % C) = col f C t (t % C) ++ [f t] := by
  unfold col
  rw [List.range_succ, List.filter_append, List.map_append]
  simp

theorem col_other (f : Nat → Int) (C t c : Nat) (h : c ≠ t % C) : col f C (t + 1) c = col f C t c := by
  unfold col
  rw [List.range_succ, List.filter_append, List.map_append]
  have : (t % C == c) = false := by simp; exact fun e => h e.symm
  simp [this]

theorem col_len (f : Nat → Int) (C t c : Nat) : (col f C t c).length ≤ t := by
  unfold col
  rw [List.length_map]
  exact Nat.le_trans (List.length_filter_le _ _) (by simp)

theorem filter_block (C c M : Nat) (hc : c < C) : (List.range (M * C)).filter (fun k => k % C == c) = (List.range M).map (fun i => i * C + c) := by
  induction M with
  | zero => simp
  | succ M ih =>
    rw [Nat.add_mul, Nat.one_mul, List.range_add, List.filter_append, ih, List.range_succ, List.map_append]
    congr 1
    rw [List.filter_map]
    have h1 : ((fun k => k % C == c) ∘ fun x => M * C + x) = fun x => (M * C + x) % C == c := rfl
    rw [h1]
    have h2 : (List.range C).filter (fun x => (M * C + x) % C == c) = [c] := by
      have h3 : ∀ x ∈ List.range C, ((M * C + x) % C == c) = (x == c) := by
        intro x hx
        rw [place_mod (List.mem_range.1 hx)]
      rw [List.filter_congr h3]
      clear ih h1 h3 M
      induction C with
      | zero => omega
      | succ C ih2 =>
        rw [List.range_succ, List.filter_append]
        by_cases hcc : c = C
        · subst hcc
          have : (List.range c).filter (fun x => x == c) = [] := by
            rw [List.filter_eq_nil_iff]
            intro x hx
            have := List.mem_range.1 hx
            simp
            omega
          rw [this]
          simp
        · rw [ih2 (by omega)]
          have : (C == c) = false := by simp; omega
          simp [this]
    rw [h2]
    simp

theorem col_all (f : Nat → Int) (C M : Nat) : (List.range C).map (fun c => col f C (M * C) c) = gridF C M (fun c i => f (i * C + c)) := by
  unfold gridF
  apply List.map_congr_left
  intro c hc
  unfold col
  rw [filter_block C c M (List.mem_range.1 hc), List.map_map]
  rfl

/-- A row of slices in one block, each of integers that are owned, no two in one block. -/
def Stack (base g : Nat) (w : World) (us : List Value) (L : List (List Int)) : Prop :=
  w.heap[g]? = some (.cells us.toArray 45 (0, 0)) ∧ us.length = L.length ∧ (∀ c, c < L.length → w.ownsRow base 3 1 (us.getD c undef) (L.getD c []).length (ivs (L.getD c []))) ∧
  (∀ a b, a < L.length → b < L.length → a ≠ b → ∀ k, (us.getD a undef).ownBlock = some k → (us.getD b undef).ownBlock ≠ some k)

theorem Stack.chs {base g : Nat} {w : World} {us : List Value} {L : List (List Int)} (h : Stack base g w us L) (hm : L.length ≤ maxLen) : Chs w (.slice (some ⟨g, 0, none⟩) L.length L.length) L := by
  obtain ⟨h1, h2, h3, _⟩ := h
  refine ⟨us, ⟨_, L.length, by rw [h2], by omega, hm, fun h => by simp at h, fun _ => ⟨g, 0, rfl, lt_of_heap h1, fun j u hu => ?_⟩⟩, h2, fun i hi => ⟨us.getD i undef, ?_, sl_of_owns (h3 i hi)⟩⟩
  · rw [Nat.zero_add, cell_of h1, List.getElem?_toArray]
    exact hu
  · have : i < us.length := by omega
    simp [List.getD, this]

/-- One more in a row. -/
theorem Stack.push {base g : Nat} {w w2 w6 : World} {us : List Value} {L : List (List Int)} (h : Stack base g w us L) (k2 : Kept Nix w w2) {c : Nat} (hc : c < L.length) {v6 : Value} {n : Int}
    (ho : w6.ownsRow base 3 1 v6 ((L.getD c []).length + 1) (ivs (L.getD c []) ++ [.int .i64 n])) (hg : w2.grownBy w6 (us.getD c undef).ownBlock) (hv : v6.ownBlock = (us.getD c undef).ownBlock ∨ v6.ownBlock = some w2.heap.size) :
    Stack base g (w6.setCell ⟨g, c, none⟩ v6) (us.set c v6) (L.set c (L.getD c [] ++ [n])) ∧ w6.heap[g]? = some (.cells us.toArray 45 (0, 0)) := by
  obtain ⟨h1, h2, h3, h4⟩ := h
  have own2 : ∀ a, a < L.length → w2.ownsRow base 3 1 (us.getD a undef) (L.getD a []).length (ivs (L.getD a [])) := fun a ha => k2.owns (h3 a ha) (fun _ _ h => h)
  have lt2 : ∀ a, a < L.length → ∀ k, (us.getD a undef).ownBlock = some k → k < w2.heap.size := fun a ha k hk => ((own2 a ha).lt k hk).2
  have hg2 := k2.heap h1 id
  have hg6 : w6.heap[g]? = some (.cells us.toArray 45 (0, 0)) := by
    refine (hg.block g (lt_of_heap hg2) (fun e => ?_)).trans hg2
    obtain ⟨cur', hh⟩ := owns_type (own2 c hc) e.symm
    rw [hg2] at hh
    simp at hh
  have kg : Kept (fun k => (us.getD c undef).ownBlock = some k) w2 w6 := ⟨hg.os, hg.tape, hg.output, hg.size, fun k hk hn => hg.block k hk (fun e => hn e.symm)⟩
  have ks : Kept (One g) w6 (w6.setCell ⟨g, c, none⟩ v6) := Kept.setCell (S := One g) (Kept.refl _ _) (p := ⟨g, c, none⟩) (.inl rfl) _
  have notg : ∀ {x : Value} {m : Nat} {xs : List Value}, w6.ownsRow base 3 1 x m xs → (w6.setCell ⟨g, c, none⟩ v6).ownsRow base 3 1 x m xs := by
    intro x m xs hx
    refine ks.owns hx (fun k hb hs => ?_)
    have hs' : k = g := hs
    subst hs'
    obtain ⟨cur', hh⟩ := owns_type hx hb
    rw [hg6] at hh
    simp at hh
  have eqc : (us.set c v6).getD c undef = v6 := by simp [List.getD, show c < us.length by omega]
  have nec : ∀ a, a ≠ c → (us.set c v6).getD a undef = us.getD a undef := fun a ha => by simp [List.getD, List.getElem?_set_ne (fun e => ha e.symm)]
  have eql : (L.set c (L.getD c [] ++ [n])).getD c [] = L.getD c [] ++ [n] := by simp [List.getD, hc]
  have nel : ∀ a, a ≠ c → (L.set c (L.getD c [] ++ [n])).getD a [] = L.getD a [] := fun a ha => by simp [List.getD, List.getElem?_set_ne (fun e => ha e.symm)]
  refine ⟨⟨?_, by simp [h2], fun a ha => ?_, fun a b ha hb hab k hk => ?_⟩, hg6⟩
  · rw [heap_set hg6, List.setIfInBounds_toArray]
  · rw [List.length_set] at ha
    by_cases hac : a = c
    · subst hac
      rw [eqc, eql]
      refine notg ?_
      rw [List.length_append, show ivs (L.getD a [] ++ [n]) = ivs (L.getD a []) ++ [.int .i64 n] by simp [ivs]]
      exact ho
    · rw [nec a hac, nel a hac]
      refine notg (kg.owns (own2 a ha) (fun k hk hs => ?_))
      exact h4 c a hc ha (fun e => hac e.symm) k hs hk
  · rw [List.length_set] at ha hb
    by_cases hac : a = c
    · subst hac
      rw [eqc] at hk
      rw [nec b (fun e => hab e.symm)]
      rcases hv with hv | hv
      · rw [hv] at hk
        exact h4 a b ha hb hab k hk
      · rw [hv] at hk
        cases hk
        intro hbb
        have := lt2 b hb _ hbb
        omega
    · rw [nec a hac] at hk
      by_cases hbc : b = c
      · subst hbc
        rw [eqc]
        rcases hv with hv | hv
        · rw [hv]
          exact h4 a b ha hb hab k hk
        · rw [hv]
          intro e
          have := lt2 a ha k hk
          cases e
          omega
      · rw [nec b hbc]
        exact h4 a b ha hb hab k hk

end Go.Proofs.Ytpiongdkfebchaa
