/- Package fixed: differences. -/
import Derived.Test.YtkpmofomlplihaaInts
import Derived.Test.YtkpmofomlplihaaFixMath
import Derived.Laws.OwnMore
namespace Go.Proofs.Ytkpmofomlplihaa
open Go.RowKit Bx

theorem ivs_get (zs : List Int) (i : Nat) (h : i < zs.length) : (ivs zs)[i]? = some (.int .i64 (zs.getD i 0)) := by simp [ivs, h]
theorem ivs_set (zs : List Int) (i : Nat) (z : Int) : (ivs zs).set i (.int .i64 z) = ivs (zs.set i z) := by simp [ivs, List.map_set]
theorem ivs_take (zs : List Int) (i : Nat) : (ivs zs).take i = ivs (zs.take i) := by simp [ivs, List.map_take]
theorem ivs_drop (zs : List Int) (i : Nat) : (ivs zs).drop i = ivs (zs.drop i) := by simp [ivs, List.map_drop]
theorem ivs_append (a b : List Int) : ivs (a ++ b) = ivs a ++ ivs b := by simp [ivs]

/-- A beginning of what is owned is owned. -/
theorem owns_less {w : World} {base g n cap m : Nat} {e : TypeId} {xs : List Value} (h : w.ownsRow base e 1 (.slice (some ⟨g, 0, none⟩) n cap) n xs) (hm : m ≤ n) : w.ownsRow base e 1 (.slice (some ⟨g, 0, none⟩) m cap) m (xs.take m) := by
  have hl := h.1
  rcases h.2 with ⟨h', _⟩ | ⟨g', cap', cur, h', hb, hg, hnc, hcm, hcs, htake⟩
  · simp at h'
  · simp only [Value.slice.injEq, Option.some.injEq, Addr.mk.injEq, and_true, true_and] at h'
    obtain ⟨rfl, rfl⟩ := h'
    refine ⟨by simp; omega, .inr ⟨g, cap, cur, rfl, hb, hg, by omega, hcm, hcs, ?_⟩⟩
    rw [← htake, List.take_take, Nat.mul_one, Nat.mul_one, Nat.min_eq_left hm]

theorem owns_cap {w : World} {base n cap : Nat} {ao : Option Addr} {e : TypeId} {size : Nat} {xs : List Value} (h : w.ownsRow base e size (.slice ao n cap) n xs) : n ≤ cap ∧ cap ≤ maxLen := by
  obtain ⟨ao', cap', e, hc1, hc2⟩ := owns_shape h
  simp only [Value.slice.injEq] at e
  rw [e.2.2]
  exact ⟨hc1, hc2⟩

theorem nearer {m i i' : Nat} (h : i < m) (e : i + 1 = i') : m - (intOf (.int .i64 (i' : Int))).toNat < m - (intOf (.int .i64 (i : Int))).toNat := by
  simp only [intOf, Int.toNat_natCast]
  omega

def DiffInv (base g n cap m : Nat) (zs : List Int) (w : World) (a : Act) (w' : World) : Prop :=
  a.defers = [] ∧ a.tmps.size = 29 ∧ a.tmps[0]? = some (.slice (some ⟨g, 0, none⟩) n cap) ∧ a.tmps[3]? = some (.int .i64 (m : Int)) ∧ a.tmps[8]? = some (.int .i64 (m : Int)) ∧
  ∃ i : Nat, i ≤ m ∧ a.tmps[9]? = some (.int .i64 (i : Int)) ∧ w'.ownsRow base 3 1 (.slice (some ⟨g, 0, none⟩) n cap) n (ivs (ov zs i)) ∧ Kept (One g) w w'

theorem diff_nums (n cap m i : Nat) (x y : Int) (hn : n = m + 1) (h : n ≤ cap) (hm : cap ≤ maxLen) (hi : i < m) (hx : -4611686018427387903 ≤ x ∧ x ≤ 4611686018427387903) (hy : -4611686018427387903 ≤ y ∧ y ≤ 4611686018427387903) :
    IntKind.i64.wrap ((i : Int) + 1) = ((i + 1 : Nat) : Int) ∧ wrap64 ((i : Int) + 1) = ((i + 1 : Nat) : Int) ∧ IntKind.i64.wrap (y - x) = y - x ∧ wrap64 (y - x) = y - x ∧ decide ((i : Int) < (m : Int)) = true ∧ (i : Int) < (n : Int) ∧ ((i + 1 : Nat) : Int) < (n : Int) ∧ i < n ∧ i + 1 < n := by
  simp only [maxLen] at hm
  have e1 : wrap64 ((i : Int) + 1) = ((i + 1 : Nat) : Int) := by unfold wrap64; omega
  have e2 : wrap64 (y - x) = y - x := by unfold wrap64; omega
  refine ⟨?_, e1, ?_, e2, ?_, ?_, ?_, ?_, ?_⟩
  · rw [IntWalk.i64_in _ (by omega)]; simp
  · exact IntWalk.i64_in _ (by omega)
  · exact decide_eq_true (by omega)
  all_goals omega

set_option maxHeartbeats 1000000 in
theorem diff_any (base g cap m : Nat) (zs : List Int) (w : World) (hl : zs.length = m + 1) (ho : w.ownsRow base 3 1 (.slice (some ⟨g, 0, none⟩) zs.length cap) zs.length (ivs zs)) (hb : Bd 4611686018427387903 zs) :
    Calls Try.prog 27 #[.slice (some ⟨g, 0, none⟩) zs.length cap] w fun e w' => e = .returned (.slice (some ⟨g, 0, none⟩) m cap) ∧ w'.ownsRow base 3 1 (.slice (some ⟨g, 0, none⟩) m cap) m (ivs (dl zs)) ∧ Kept (One g) w w' := by
  have HO := Lib.hid ho
  have HL := Lib.hid hl
  have HB := Lib.hid hb
  obtain ⟨hc1, hc2⟩ := owns_cap ho
  have hwn : wrap64 ((zs.length : Int) - 1) = (m : Int) := by simp only [maxLen] at hc2; unfold wrap64; omega
  have HC1 := Lib.hid hc1
  have HC2 := Lib.hid hc2
  have hmc : (m : Int) ≤ (cap : Int) := by omega
  have hc0 : ¬ cap = 0 := by omega
  have HMC := Lib.hid hmc
  have HC0 := Lib.hid hc0
  clear ho hl hb hc1 hc2 hmc hc0
  generalize hn : zs.length = n at *
  have HN := Lib.hid hn
  clear hn
  go_enter Try.func27, Try.ntmps27
  go_wp2
  rw [hwn]
  refine wp_loop (DiffInv base g n cap m zs w) (fun a _ => m - (intOf (a.tmps.getD 9 undef)).toNat) ?_ ?_
  · exact ⟨rfl, rfl, rfl, rfl, rfl, 0, Nat.zero_le _, rfl, by rw [ov_zero]; exact HO.out, Kept.refl _ _⟩
  · rintro ⟨tm, df⟩ w1 ⟨rfl, hs, h0, h3, h8, i, hi, h9, ho, hk⟩
    simp only at hs h0 h3 h8 h9
    obtain ⟨f, hf, hg⟩ := fr_open hs
    have e0 := hg _ _ h0
    have e3 := hg _ _ h3
    have e8 := hg _ _ h8
    have e9 := hg _ _ h9
    simp only [List.range, List.range.loop, List.map] at hf
    rw [e0, e3, e8, e9] at hf
    clear e0 e3 e8 e9 hg hs h0 h3 h8 h9
    subst hf
    have HK := Lib.hid hk
    have HO1 := Lib.hid ho
    by_cases hlt : i < m
    · have hlen : (ov zs i).length = n := by rw [ov_length zs i (by have := HL.out; have := HN.out; omega)]; exact HN.out
      obtain ⟨w1', w2', w3', w4', hd, hi1, hi2, hi3, hi4⟩ := diff_nums n cap m i (zs.getD i 0) (zs.getD (i + 1) 0) HL.out HC1.out HC2.out hlt (HB.out.any (by decide) _) (HB.out.any (by decide) _)
      have c1 : w1.cell? ⟨g, i, none⟩ = some (.int .i64 (zs.getD i 0)) := by
        rw [ho.cellAt i (by omega), ivs_get _ _ (by omega)]
        have := ov_at zs i 0 (by have := HL.out; have := HN.out; omega)
        rw [Nat.add_zero] at this
        rw [this]
      have c2 : w1.cell? ⟨g, i + 1, none⟩ = some (.int .i64 (zs.getD (i + 1) 0)) := by
        rw [ho.cellAt (i + 1) (by omega), ivs_get _ _ (by omega), ov_at zs i 1 (by have := HL.out; have := HN.out; omega)]
      have hz : w1.frozen? ⟨g, i, none⟩ = false := ho.frozenAt i
      have hov := ov_set zs i (by have := HL.out; have := HN.out; omega)
      have HOV := Lib.hid hov
      have HI := Lib.hid hlt
      clear hov ho hk hlen hlt hi hi3 hi4
      generalize zs.getD i 0 = x at *
      generalize zs.getD (i + 1) 0 = y at *
      generalize hi' : i + 1 = i' at *
      have HI' := Lib.hid hi'
      clear hi'
      go_upto_region 5 with fail
      go_still_tail 13, (by kernel_rfl)
      change wpList _ _ _ _ _ w1.drew
      have hz : w1.drew.frozen? ⟨g, i, none⟩ = false := hz
      have c1 : w1.drew.cell? ⟨g, i, none⟩ = some (.int .i64 x) := c1
      have HK : Hid (Kept (One g) w w1.drew) := Lib.hid HK.out.drew
      have HO1 : Hid (w1.drew.ownsRow base 3 1 (.slice (some ⟨g, 0, none⟩) n cap) n (ivs (ov zs i))) := Lib.hid HO1.out
      generalize w1.drew = w2 at *
      go_wp2
      refine ⟨⟨rfl, rfl, rfl, rfl, rfl, i', ?_, rfl, ?_, HK.out.setCell (.inl (show One g g from rfl)) _⟩, ?_⟩
      · rw [← HI'.out]; exact HI.out
      · rw [← HOV.out, ← ivs_set]
        exact (HO1.out.stored i _).1
      · exact nearer HI.out HI'.out
    · have hd : decide ((i : Int) < (m : Int)) = false := decide_eq_false (by omega)
      have him : i = m := by omega
      subst him
      have hmc := HMC.out
      have hc0 := HC0.out
      clear hi hlt ho hk
      go_wp2
      go_ret
      refine ⟨rfl, ?_, HK.out⟩
      have h := owns_less HO1.out (m := i) (by have := HL.out; omega)
      rw [ivs_take, show i = zs.length - 1 by have := HL.out; have := HN.out; omega, ov_last] at h
      rw [show i = zs.length - 1 by have := HL.out; have := HN.out; omega]
      exact h

end Go.Proofs.Ytkpmofomlplihaa
