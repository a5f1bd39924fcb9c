/- Join, whatever the two are; parts that are joined. -/
import Derived.Test.YtpiongdkfebchaaPcmJoin
import Derived.Test.YtpiongdkfebchaaUnbMath
namespace Go.Proofs.Ytpiongdkfebchaa
open Go.RowKit Bx

theorem join_any (r d r' d' : Int) (v v' : Value) (L M : List (List Int)) (w : World) (h : Chs w v L) (h' : Chs w v' M) (hl : L.length < 1099511627776) (hr1 : ∀ c ∈ L, c.length ≤ 1000000) (hr2 : ∀ c ∈ M, c.length ≤ 1000000) :
    Calls Try.prog 25 #[.agg #[.int .i64 r, .int .i64 d, v], .agg #[.int .i64 r', .int .i64 d', v']] w fun e w' => ∃ R D v2 L2, e = .returned (.tuple #[.agg #[.int .i64 R, .int .i64 D, v2], .int .i64 (joinE r d L.length r' d' M.length)]) ∧ Kept Nix w w' ∧ Chs w' v2 L2 ∧ (R, D, L2) = joinS r d L r' d' M := by
  by_cases he : joinE r d L.length r' d' M.length = 0
  · have h3 : L.length = M.length ∧ d = d' ∧ r = r' := by
      unfold joinE at he
      split at he
      · omega
      · split at he
        · omega
        · split at he
          · omega
          · rename_i a b c
            exact ⟨Decidable.not_not.1 a, Decidable.not_not.1 b, Decidable.not_not.1 c⟩
    obtain ⟨hlen, rfl, rfl⟩ := h3
    refine (join_good r d v v' L M w h h' hlen hl hr1 hr2).mono fun e w' ⟨v2, us, h1, h2, h3⟩ => ⟨r, d, v2, joinL L M, by rw [he]; exact h1, h2, h3.chs, ?_⟩
    unfold joinS
    rw [if_pos he]
  · refine (join_bad r d r' d' v v' L M w h h' _ rfl he).mono fun e w' ⟨h1, h2⟩ => ⟨0, 0, .slice none 0 0, [], h1, h2, chs_nil _, ?_⟩
    unfold joinS
    rw [if_neg he]

theorem partL_length (L : List (List Int)) (f m : Int) : (partL L f m).length = L.length := by simp [partL]

theorem partL_getD (L : List (List Int)) (f m : Int) (i : Nat) : (partL L f m).getD i [] = ((L.getD i []).drop f.toNat).take m.toNat := by
  unfold partL
  simp only [List.getD, List.getElem?_map]
  cases L[i]? <;> simp

theorem partL_rows {L : List (List Int)} {f m : Int} {n : Nat} (h : ∀ c ∈ L, c.length ≤ n) : ∀ c ∈ partL L f m, c.length ≤ n := by
  intro c hc
  obtain ⟨x, hx, rfl⟩ := List.mem_map.1 hc
  have := h x hx
  rw [List.length_take, List.length_drop]
  omega

theorem partL_many (L : List (List Int)) (f m : Int) : manyN (partL L f m) = min m.toNat (manyN L - f.toNat) := by
  unfold manyN
  rw [partL_getD, List.length_take, List.length_drop]

/-- A part can be, if the whole can. -/
theorem chk_part {r d : Int} {L : List (List Int)} (f m : Int) (h : chkE r d L = 0) : chkE r d (partL L f m) = 0 := by
  have hk := chk_kind h
  have hev := chk_even h
  unfold chkE
  rw [partL_length, if_pos hk, if_pos, if_pos]
  · have hr := chk_range h
    unfold rangeB at hr ⊢
    rw [List.all_eq_true] at hr ⊢
    intro c hc
    obtain ⟨x, hx, rfl⟩ := List.mem_map.1 hc
    have h1 := hr x hx
    rw [List.all_eq_true] at h1 ⊢
    intro n hn
    exact h1 n (List.mem_of_mem_drop (List.mem_of_mem_take hn))
  · refine even_of (fun j hj => ?_)
    rw [partL_length] at hj
    rw [partL_many, partL_getD, List.length_take, List.length_drop, hev j hj]

/-- Two parts, joined, are the whole. -/
theorem join_parts {L : List (List Int)} (at' : Nat) (h : ∀ c ∈ L, c.length ≤ 50) : joinL (partL L 0 (at' : Int)) (partL L (at' : Int) 1000) = L := by
  unfold joinL
  rw [partL_length]
  apply List.ext_getElem
  · simp
  · intro i h1 h2
    simp only [List.getElem_map, List.getElem_range]
    rw [partL_getD, partL_getD]
    have hg : L.getD i [] = L[i] := by simp [List.getD, h2]
    rw [hg]
    have hl := h L[i] (List.getElem_mem h2)
    simp only [Int.toNat_natCast, show (0 : Int).toNat = 0 from rfl, show (1000 : Int).toNat = 1000 from rfl, List.drop_zero]
    rw [List.take_of_length_le (l := L[i].drop at') (by rw [List.length_drop]; omega), List.take_append_drop]

end Go.Proofs.Ytpiongdkfebchaa
