/- Rows that are done: a store beside them; what the reference's Unbytes has at its end. -/
import Derived.Test.YtpiongdkfebchaaRefUnb6
namespace Go.Proofs.Ytpiongdkfebchaa
open Go.RowKit Bx

/-- A struct elsewhere that is stored leaves the rows as they are. -/
theorem Stack.beside {base g p : Nat} {w : World} {us : List Value} {L : List (List Int)} {cs : Array Value} {fr : Nat × Nat} (cs' : Array Value) (h : Stack base g w us L) (hp : w.heap[p]? = some (.cells cs 24 fr)) : Stack base g (w.setRow p cs') us L := by
  obtain ⟨h1, h2, h3, h4⟩ := h
  have hgp : g ≠ p := fun e => by
    rw [e, hp] at h1
    simp at h1
  have kk : Kept (One p) w (w.setRow p cs') := (Kept.refl _ w).setRow (.inl (show One p p from rfl)) _
  refine ⟨(heap_row_other cs' hgp).trans h1, h2, fun c hc => kk.owns (h3 c hc) (fun k hk e => ?_), h4⟩
  have e' : k = p := e
  rcases (h3 c hc).2 with ⟨hv, _⟩ | ⟨g', cap, cur, hv, _, hg', _⟩
  · rw [hv] at hk; cases hk
  · rw [hv] at hk
    simp only [Value.ownBlock, Option.some.injEq] at hk
    rw [hk, e', hp] at hg'
    simp at hg'

/-- All rounds are done: nothing is wrong, and the rows are the sound's. -/
theorem unb_done {B : List Nat} {r d : Int} {C t : Nat} (hk : kindE r d (C : Int) = 0) (hm : B.length % (eachN d * C) = 0) (hC : 1 ≤ C) (ht : eachN d * t = B.length) (hin : ∀ k, k < t → inD (snum (chunk B (eachN d) k)) d = true) :
    unbE B r d (C : Int) = 0 ∧ (List.range C).map (col (fun k => snum (chunk B (eachN d) k)) C t) = unbL B (eachN d) C (B.length / (eachN d * C)) := by
  have he := eachN_lo d
  have hN : B.length / eachN d = t := by rw [← ht, Nat.mul_div_cancel_left _ he]
  refine ⟨?_, ?_⟩
  · unfold unbE
    rw [if_pos hk, Int.toNat_natCast, if_pos hm, if_pos]
    unfold unbR
    rw [List.all_eq_true, hN]
    intro k hk
    exact hin k (List.mem_range.1 hk)
  · obtain ⟨q, hq⟩ := Nat.dvd_of_mod_eq_zero hm
    have htq : t = q * C := by
      have h1 : eachN d * t = eachN d * (C * q) := by rw [ht, hq, Nat.mul_assoc]
      rw [Nat.eq_of_mul_eq_mul_left he h1, Nat.mul_comm]
    have hM : B.length / (eachN d * C) = q := by rw [hq, Nat.mul_div_cancel_left _ (Nat.mul_pos he hC)]
    rw [hM, htq]
    unfold unbL
    exact col_all _ C q

end Go.Proofs.Ytpiongdkfebchaa
