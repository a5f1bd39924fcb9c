/- Slices of slices of integers of the call's own. -/
import Derived.Test.YtliggpidkdiinaaChs
import Derived.Test.YtliggpidkdiinaaCut
import Derived.Test.YtliggpidkdiinaaInts
namespace Go.Proofs.Ytliggpidkdiinaa
open Go.RowKit Bx

theorem owns_type {w : World} {base : Nat} {e : TypeId} {v : Value} {n : Nat} {xs : List Value} (h : w.ownsRow base e 1 v n xs) {k : Nat} (hk : v.ownBlock = some k) : ∃ cur, w.heap[k]? = some (.cells cur e (0, 0)) := by
  rcases h.2 with ⟨rfl, _⟩ | ⟨g, cap, cur, rfl, _, hg, _⟩
  · cases hk
  · cases hk
    exact ⟨cur, hg⟩

def Rack (base : Nat) (w : World) (v : Value) (us : List Value) (L : List (List Int)) : Prop :=
  w.ownsRow base 22 1 v us.length us ∧ us.length = L.length ∧ ∀ i, i < L.length → ∃ u, us[i]? = some u ∧ w.ownsRow base 3 1 u (L.getD i []).length (ivs (L.getD i []))

theorem Rack.chs {base : Nat} {w : World} {v : Value} {us : List Value} {L : List (List Int)} (h : Rack base w v us L) : Chs w v L := by
  obtain ⟨h1, h2, h3⟩ := h
  exact ⟨us, sl_of_owns h1, h2, fun i hi => by obtain ⟨u, hu, ho⟩ := h3 i hi; exact ⟨u, hu, sl_of_owns ho⟩⟩

theorem rack_nil (base : Nat) (w : World) : Rack base w (.slice none 0 0) [] [] := ⟨World.ownsRow_nil _ _ _ _, rfl, fun i hi => by simp at hi⟩

/-- What is no part of it may turn. -/
theorem Rack.other {base : Nat} {w w' : World} {v : Value} {us : List Value} {L : List (List Int)} (h : Rack base w v us L) {S : Nat → Prop} (hk : Kept S w w') (hS : ∀ k cur t, S k → w.heap[k]? = some (.cells cur t (0, 0)) → t ≠ 22 ∧ t ≠ 3) : Rack base w' v us L := by
  obtain ⟨h1, h2, h3⟩ := h
  refine ⟨hk.owns h1 (fun k hb hs => ?_), h2, fun i hi => ?_⟩
  · obtain ⟨cur, hg⟩ := owns_type h1 hb
    exact (hS k _ _ hs hg).1 rfl
  · obtain ⟨u, hu, ho⟩ := h3 i hi
    refine ⟨u, hu, hk.owns ho (fun k hb hs => ?_)⟩
    obtain ⟨cur, hg⟩ := owns_type ho hb
    exact (hS k _ _ hs hg).2 rfl

theorem Rack.kept {base : Nat} {w w' : World} {v : Value} {us : List Value} {L : List (List Int)} (h : Rack base w v us L) (hk : Kept Nix w w') : Rack base w' v us L := h.other hk (fun _ _ _ h _ => absurd h id)

theorem Rack.push {base : Nat} {w w2 w6 : World} {v v6 u : Value} {us : List Value} {L : List (List Int)} {zs : List Int} (h : Rack base w v us L) (k2 : Kept Nix w w2) (hu : w2.ownsRow base 3 1 u zs.length (ivs zs))
    (ho : w6.ownsRow base 22 1 v6 (us.length + 1) (us ++ [u])) (hg : w2.grownBy w6 v.ownBlock) : Rack base w6 v6 (us ++ [u]) (L ++ [zs]) := by
  have h' := h.kept k2
  obtain ⟨h1, h2, h3⟩ := h'
  have keep : ∀ {x : Value} {n : Nat} {xs : List Value}, w2.ownsRow base 3 1 x n xs → w6.ownsRow base 3 1 x n xs := by
    intro x n xs hx
    have hk : Kept (fun k => v.ownBlock = some k) w2 w6 := ⟨hg.os, hg.tape, hg.output, hg.size, fun k hk hn => hg.block k hk (fun e => hn e.symm)⟩
    refine hk.owns hx (fun k hb hs => ?_)
    obtain ⟨c1, g1⟩ := owns_type hx hb
    obtain ⟨c2, g2⟩ := owns_type h1 hs
    rw [g1] at g2
    simp at g2
  refine ⟨by simpa using ho, by simp [h2], fun i hi => ?_⟩
  by_cases hlt : i < L.length
  · obtain ⟨x, hx, hxo⟩ := h3 i hlt
    have e2 : (L ++ [zs]).getD i [] = L.getD i [] := by simp [List.getD, List.getElem?_append_left hlt]
    rw [e2]
    exact ⟨x, by rw [List.getElem?_append_left (by omega)]; exact hx, keep hxo⟩
  · have hie : i = L.length := by simp at hi; omega
    subst hie
    have e2 : (L ++ [zs]).getD L.length [] = zs := by simp [List.getD]
    rw [e2]
    exact ⟨u, by rw [← h2]; simp, keep hu⟩

end Go.Proofs.Ytliggpidkdiinaa
