/- Slices of plans of the call's own: each with its own slice of parts. -/
import Derived.Test.YtliggpidkdiinaaPartPlan
namespace Go.Proofs.Ytliggpidkdiinaa
open Go.RowKit Bx

theorem info_plan : (Try.prog.info? 26).map (fun i => (i.zero, i.size, i.bytes)) = some (some (.agg #[.bool false, .int .i64 0, .slice none 0 0]), 3, 40) := by kernel_rfl

theorem src_plan (w : World) (x y z : Value) (t : TypeId) (h1 : x.oneCell' = true) (h2 : y.oneCell' = true) (h3 : z.oneCell' = true) : SrcIs (w.alloc (.cells #[x, y, z] t)) 3 (some ⟨w.heap.size, 0, none⟩) 1 1 [x, y, z] := by
  refine ⟨rfl, fun h => by simp at h, ?_, by simp [h1, h2, h3]⟩
  rintro ad h j u hu
  obtain rfl := Option.some.inj h
  match j, hu with
  | 0, hu =>
    simp at hu
    subst hu
    simp [Addr.add]
  | 1, hu =>
    simp at hu
    subst hu
    simp [Addr.add]
  | 2, hu =>
    simp at hu
    subst hu
    simp [Addr.add]

/-- The cells of plans. -/
def plC : List (Bool × Nat) → List Value → List Value
  | x :: T, v :: vs => .bool x.1 :: .int .i64 (x.2 : Int) :: v :: plC T vs
  | _, _ => []

theorem plC_push (x : Bool × Nat) (v : Value) : ∀ (T : List (Bool × Nat)) (vs : List Value), vs.length = T.length → plC (T ++ [x]) (vs ++ [v]) = plC T vs ++ [.bool x.1, .int .i64 (x.2 : Int), v]
  | [], [], _ => rfl
  | [], _ :: _, h => by simp at h
  | _ :: _, [], h => by simp at h
  | y :: T, u :: vs, h => by
    have := plC_push x v T vs (by simpa using h)
    simp only [List.cons_append, plC, this]

theorem plC_get : ∀ (T : List (Bool × Nat)) (vs : List Value) (i : Nat) (v : Value), i < T.length → vs[i]? = some v → (plC T vs)[3 * i]? = some (.bool (T.getD i (false, 0)).1) ∧ (plC T vs)[3 * i + 1]? = some (.int .i64 ((T.getD i (false, 0)).2 : Int)) ∧ (plC T vs)[3 * i + 2]? = some v
  | [], _, _, _, h, _ => by simp at h
  | _ :: _, [], _, _, _, h => by simp at h
  | x :: T, u :: vs, 0, v, _, h => by
    simp at h
    subst h
    simp [plC]
  | x :: T, u :: vs, i + 1, v, h1, h2 => by
    have := plC_get T vs i v (by simpa using h1) (by simpa using h2)
    rw [show 3 * (i + 1) = 3 * i + 1 + 1 + 1 by omega]
    simpa [plC] using this

/-- A slice of plans, each with the parts that pf tells of it. -/
def PlR (base : Nat) (w : World) (u : Value) (pf : Bool × Nat → List (Int × Bool)) (T : List (Bool × Nat)) : Prop :=
  ∃ vs : List Value, vs.length = T.length ∧ w.ownsRow base 26 3 u T.length (plC T vs) ∧ ∀ i, i < T.length → ∃ v, vs[i]? = some v ∧ w.ownsRow base 39 2 v (pf (T.getD i (false, 0))).length (pcs (pf (T.getD i (false, 0))))

theorem PlR.nil (base : Nat) (w : World) (pf : Bool × Nat → List (Int × Bool)) : PlR base w (.slice none 0 0) pf [] := ⟨[], rfl, World.ownsRow_nil _ _ _ _, fun _ hi => absurd hi (Nat.not_lt_zero _)⟩

theorem PlR.kept {base : Nat} {w w' : World} {u : Value} {pf : Bool × Nat → List (Int × Bool)} {T : List (Bool × Nat)} (h : PlR base w u pf T) (hk : Kept Nix w w') : PlR base w' u pf T := by
  obtain ⟨vs, h1, h2, h3⟩ := h
  refine ⟨vs, h1, hk.owns h2 (fun _ _ h => h), fun i hi => ?_⟩
  obtain ⟨v, e, ho⟩ := h3 i hi
  exact ⟨v, e, hk.owns ho (fun _ _ h => h)⟩

theorem PlR.push {base : Nat} {w w2 w6 : World} {u u6 v : Value} {pf : Bool × Nat → List (Int × Bool)} {T : List (Bool × Nat)} {x : Bool × Nat} {vs : List Value} (hvl : vs.length = T.length) (h1 : w.ownsRow base 26 3 u T.length (plC T vs))
    (h3 : ∀ i, i < T.length → ∃ v, vs[i]? = some v ∧ w.ownsRow base 39 2 v (pf (T.getD i (false, 0))).length (pcs (pf (T.getD i (false, 0))))) (k2 : Kept Nix w w2)
    (hv : w2.ownsRow base 39 2 v (pf x).length (pcs (pf x))) (ho : w6.ownsRow base 26 3 u6 (T.length + 1) (plC T vs ++ [.bool x.1, .int .i64 (x.2 : Int), v])) (hg : w2.grownBy w6 u.ownBlock) : PlR base w6 u6 pf (T ++ [x]) := by
  have h1' := k2.owns h1 (fun _ _ h => h)
  have keep : ∀ {y : Value} {n : Nat} {xs : List Value}, w2.ownsRow base 39 2 y n xs → w6.ownsRow base 39 2 y n xs := by
    intro y n xs hy
    have hk : Kept (fun k => u.ownBlock = some k) w2 w6 := ⟨hg.os, hg.tape, hg.output, hg.size, fun k hk hn => hg.block k hk (fun e => hn e.symm)⟩
    refine hk.owns hy (fun k hb hs => ?_)
    rcases hy.2 with ⟨rfl, _⟩ | ⟨g, cap, cur, rfl, _, hgg, _⟩
    · cases hb
    · rcases h1'.2 with ⟨rfl, _⟩ | ⟨g', cap', cur', rfl, _, hgg', _⟩
      · cases hs
      · cases hb
        cases hs
        rw [hgg] at hgg'
        simp at hgg'
  refine ⟨vs ++ [v], by simp [hvl], ?_, fun i hi => ?_⟩
  · rw [plC_push x v T vs hvl, List.length_append]
    exact ho
  · by_cases hlt : i < T.length
    · obtain ⟨y, e, hy⟩ := h3 i hlt
      have e2 : (T ++ [x]).getD i (false, 0) = T.getD i (false, 0) := by simp [List.getD, List.getElem?_append_left hlt]
      rw [e2]
      exact ⟨y, by rw [List.getElem?_append_left (by omega)]; exact e, keep (k2.owns hy (fun _ _ h => h))⟩
    · have hie : i = T.length := by simp at hi; omega
      subst hie
      have e2 : (T ++ [x]).getD T.length (false, 0) = x := by simp [List.getD]
      rw [e2]
      exact ⟨v, by rw [← hvl]; simp, keep hv⟩

/-- A plan of them, in any world that kept it. -/
theorem PlR.at {base : Nat} {w : World} {u : Value} {pf : Bool × Nat → List (Int × Bool)} {T : List (Bool × Nat)} (h : PlR base w u pf T) (h0 : 0 < T.length) : ∃ b cap, u = .slice (some ⟨b, 0, none⟩) T.length cap ∧ ∀ i, i < T.length → ∃ uo uc, ∀ w', Kept Nix w w' →
    (w'.cell? ⟨b, i * 3, none⟩ = some (.bool (T.getD i (false, 0)).1) ∧ w'.cell? ⟨b, i * 3 + 1, none⟩ = some (.int .i64 ((T.getD i (false, 0)).2 : Int)) ∧ w'.cell? ⟨b, i * 3 + 2, none⟩ = some (.slice uo (pf (T.getD i (false, 0))).length uc)) ∧
    w'.ownsRow base 39 2 (.slice uo (pf (T.getD i (false, 0))).length uc) (pf (T.getD i (false, 0))).length (pcs (pf (T.getD i (false, 0)))) := by
  obtain ⟨vs, h1, h2, h3⟩ := h
  obtain ⟨b, cap, rfl, -⟩ := owns_pos h2 h0
  refine ⟨b, cap, rfl, fun i hi => ?_⟩
  obtain ⟨v, e, ho⟩ := h3 i hi
  obtain ⟨uo, uc, rfl, -⟩ := owns_shape ho
  refine ⟨uo, uc, fun w' hk => ?_⟩
  have g2 := hk.owns h2 (fun _ _ h => h)
  obtain ⟨p1, p2, p3⟩ := plC_get T vs i _ hi e
  have c1 := g2.cells (g := b) rfl _ _ p1
  have c2 := g2.cells (g := b) rfl _ _ p2
  have c3 := g2.cells (g := b) rfl _ _ p3
  rw [Addr.add_lit, Nat.zero_add, Nat.mul_comm 3 i] at c1 c2 c3
  exact ⟨⟨c1, c2, c3⟩, hk.owns ho (fun _ _ h => h)⟩

end Go.Proofs.Ytliggpidkdiinaa
