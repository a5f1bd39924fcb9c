/- Two parts compared; the reference's Near. -/
import Derived.Test.YtliggpidkdiinaaCostBest
import Derived.Test.YtliggpidkdiinaaRiceRefLow
import Derived.Laws.StructEq
namespace Go.Proofs.Ytliggpidkdiinaa
open Go.RowKit Bx

theorem eq_part (a b : Int) (r s : Bool) (w : World) : (Op.equalIn 10000 39 (.agg #[.int .i64 a, .bool r]) (.agg #[.int .i64 b, .bool s])).run Try.prog w = .ok (a == b && r == s) w := by
  rw [show (10000 : Nat) = 9999 + 1 from rfl]
  go_simp
  by_cases h1 : a = b <;> by_cases h2 : r = s <;> simp [h1, h2]

def NrsInv (v : Value) (L : List Int) (w : World) (a : Act) (w' : World) : Prop :=
  a.defers = [] ∧ a.tmps.size = 18 ∧ a.tmps[0]? = some v ∧ ∃ i : Nat, i ≤ L.length ∧ a.tmps[3]? = some (.int .i64 (i : Int)) ∧ nrs (L.take i) = true ∧ w' = w

set_option maxHeartbeats 1000000 in
theorem rnears_any (v : Value) (L : List Int) (w : World) (hv : Sl w v (ivs L)) : Calls Try.prog 13 #[v] w fun e w' => e = .returned (.bool (nrs L)) ∧ w' = w := by
  obtain ⟨ao, ca, rfl, h1, h2, -⟩ := hv.ints
  have HV := Lib.hid hv
  have HL := Lib.hid (show L.length ≤ 9223372036854775807 by simp only [maxLen] at h2; omega)
  obtain ⟨q, hq⟩ : ∃ q, nrs L = q := ⟨_, rfl⟩
  rw [hq]
  have HE := Lib.hid hq
  clear hv h1 h2 hq
  go_enter Try.func13, Try.ntmps13
  go_wp2
  refine wp_loop (NrsInv (.slice ao L.length ca) L w) (fun a _ => L.length - (intOf (a.tmps.getD 3 undef)).toNat) ?_ ?_
  · exact ⟨rfl, rfl, rfl, 0, Nat.zero_le _, rfl, rfl, rfl⟩
  · rintro ⟨tm, df⟩ w1 ⟨rfl, hs, e0, i, hi, e3, hn, rfl⟩
    simp only at hs e0 e3
    obtain ⟨f, hf, hg⟩ := fr_open hs
    have g0 := hg _ _ e0
    have g3 := hg _ _ e3
    simp only [List.range, List.range.loop, List.map] at hf
    rw [g0, g3] at hf
    clear g0 g3 hg hs e0 e3
    subst hf
    have HN := Lib.hid hn
    clear hn
    by_cases hlt : i < L.length
    · obtain ⟨b1, o1, rfl, hc1⟩ := cell_kept HV.out i hlt
      have x1 := hc1 _ (Kept.refl _ _)
      have hdd : decide (i < L.length) = true := decide_eq_true hlt
      have hi1 : (i : Int) < (L.length : Int) := by omega
      have HI := Lib.hid hlt
      have HW := Lib.hid (show wrap64 ((i : Int) + 1) = ((i + 1 : Nat) : Int) by have := HL.out; rw [w64_in _ (by omega)]; omega)
      have NR := Lib.hid (refNear_any (L.getD i 0) w1)
      clear hc1
      cases hr : nr (L.getD i 0) with
      | true =>
        have HN2 := Lib.hid (nrs_step HN.out hlt hr)
        rw [hr] at NR
        clear hlt hi hr
        generalize L.getD i 0 = x at *
        go_wp2_with (go_at_call 24; refine NR.out.mono ?_; rintro e w2 ⟨rfl, rfl⟩)
        rw [HW.out]
        exact ⟨⟨rfl, rfl, rfl, i + 1, HI.out, rfl, HN2.out, rfl⟩, nearer HI.out rfl⟩
      | false =>
        have hq := HE.out
        rw [nrs_not hlt hr] at hq
        rw [hr] at NR
        subst hq
        clear hlt hi hr HE
        generalize L.getD i 0 = x at *
        go_wp2_with (go_at_call 24; refine NR.out.mono ?_; rintro e w2 ⟨rfl, rfl⟩)
        go_ret
        exact ⟨rfl, rfl⟩
    · have hie : i = L.length := by omega
      subst hie
      have hdd : decide (L.length < L.length) = false := decide_eq_false hlt
      have hn := HN.out
      rw [List.take_length, HE.out] at hn
      subst hn
      clear hlt hi
      go_wp2
      go_ret
      exact ⟨rfl, rfl⟩

end Go.Proofs.Ytliggpidkdiinaa
