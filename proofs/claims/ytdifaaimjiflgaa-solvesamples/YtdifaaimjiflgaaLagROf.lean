/- The reference of layer 9: Of. -/
import Derived.Test.YtdifaaimjiflgaaLagRef
import Derived.Test.YtdifaaimjiflgaaLagOrd
namespace Go.Proofs.Ytdifaaimjiflgaa
open Go.RowKit Bx

def ROfO (v : Value) (p : Int) (L : List Int) (order : Int) (m : Nat) (w : World) (a : Act) (w' : World) : Prop :=
  a.defers = [] ∧ a.tmps.size = 56 ∧ a.tmps[0]? = some v ∧ a.tmps[1]? = some (.int .i64 order) ∧ a.tmps[5]? = some (.int .i64 p) ∧
  ∃ k : Nat, k ≤ m ∧ a.tmps[7]? = some (.int .i64 (k : Int)) ∧ ∃ u, a.tmps[6]? = some u ∧ w'.ownsRow w.heap.size 3 1 u k (ivs (L.take k)) ∧ Kept Nix w w'

def ROfI (v u : Value) (p : Int) (ys : List Int) (order : Int) (k c : Nat) (w : World) (a : Act) (w' : World) : Prop :=
  a.defers = [] ∧ a.tmps.size = 56 ∧ a.tmps[0]? = some v ∧ a.tmps[1]? = some (.int .i64 order) ∧ a.tmps[5]? = some (.int .i64 p) ∧ a.tmps[6]? = some u ∧ a.tmps[7]? = some (.int .i64 (k : Int)) ∧
  ∃ i : Nat, i ≤ c ∧ a.tmps[9]? = some (.int .i64 (i : Int)) ∧ a.tmps[8]? = some (.int .i64 (part ys k i)) ∧ ∃ nn, w' = w.drewN nn

/-- The test at the head, by its parts. -/
theorem rof_head (k : Nat) (order : Int) :
    (k < many order → (decide ((k : Int) ≤ order) = true ∧ decide ((k : Int) ≤ 32) = true ∧ decide (k ≤ 32) = true) ∨ (decide ((k : Int) ≤ order) = false ∧ ((k : Int) == 0) = true ∧ (k == 0) = true)) ∧
    (¬ k < many order → (decide ((k : Int) ≤ order) = true ∧ decide ((k : Int) ≤ 32) = false ∧ decide (k ≤ 32) = false ∧ ((k : Int) == 0) = false ∧ (k == 0) = false) ∨ (decide ((k : Int) ≤ order) = false ∧ ((k : Int) == 0) = false ∧ (k == 0) = false)) := by
  unfold many
  constructor
  · intro h
    by_cases h1 : (k : Int) ≤ order
    · exact .inl ⟨decide_eq_true h1, decide_eq_true (by omega), decide_eq_true (by omega)⟩
    · have h0 : k = 0 := by omega
      subst h0
      exact .inr ⟨decide_eq_false h1, rfl, rfl⟩
  · intro h
    have h0 : ¬ k = 0 := by omega
    have e1 : ((k : Int) == 0) = false := beq_false_of_ne (by omega)
    have e2 : (k == 0) = false := beq_false_of_ne h0
    by_cases h1 : (k : Int) ≤ order
    · exact .inl ⟨decide_eq_true h1, decide_eq_false (by omega), decide_eq_false (by omega), e1, e2⟩
    · exact .inr ⟨decide_eq_false h1, e1, e2⟩

theorem rof_nums {ys : List Int} (hb : Bd 4194304 ys) (k i : Nat) (hi : i ≤ 65534) (hik : i + k ≤ 65535) :
    wrap64 ((i : Int) + 1) = ((i + 1 : Nat) : Int) ∧ IntKind.i64.wrap ((i + k : Nat) : Int) = ((i + k : Nat) : Int) ∧ IntKind.i64.wrap (ys.getD i 0 * ys.getD (i + k) 0) = ys.getD i 0 * ys.getD (i + k) 0 ∧ IntKind.i64.wrap (part ys k i + ys.getD i 0 * ys.getD (i + k) 0) = part ys k (i + 1) := by
  have h1 := prod22 _ _ (hb.any (by decide) (i + k)) (hb.any (by decide) i)
  have h2 := part_bd hb k (i + 1) (by omega)
  have h3 : part ys k (i + 1) = part ys k i + ys.getD i 0 * ys.getD (i + k) 0 := by
    show part ys k i + ys.getD (i + k) 0 * ys.getD i 0 = _
    rw [Int.mul_comm]
  rw [Int.mul_comm] at h1
  rw [h3] at h2 ⊢
  generalize ys.getD i 0 * ys.getD (i + k) 0 = p at *
  exact ⟨by unfold wrap64; omega, IntWalk.i64_in _ (by omega), IntWalk.i64_in _ (by omega), IntWalk.i64_in _ (by omega)⟩

/-- A number that isn't the least one. -/
structure In63 (x : Int) : Prop where
  lo : -9223372036854775807 ≤ x
  hi : x ≤ 9223372036854775807

theorem down_in (a p : Int) (hp : 0 < p) (ha : In63 a) (w : World) : Calls Try.prog 21 #[.int .i64 a, .int .i64 p] w fun e w' => e = .returned (.int .i64 (a / p)) ∧ w' = w := down_by a p hp ⟨ha.lo, ha.hi⟩ w

theorem take_more (L : List Int) (i : Nat) (h : i < L.length) : L.take (i + 1) = L.take i ++ [L.getD i 0] := by
  rw [List.take_succ_eq_append_getElem h]
  simp [List.getD, h]

def ROfPost (zs : List Int) (order : Int) (w : World) (e : Ending) (w' : World) : Prop :=
  ∃ u, e = .returned u ∧ w'.ownsRow w.heap.size 3 1 u (many order) (ivs (told zs order)) ∧ Kept Nix w w'

end Go.Proofs.Ytdifaaimjiflgaa
