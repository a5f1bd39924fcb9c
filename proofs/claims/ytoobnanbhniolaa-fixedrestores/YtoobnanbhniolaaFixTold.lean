/- The reference of layer 7: Told. -/
import Derived.Test.YtoobnanbhniolaaFixRef
namespace Go.Proofs.Ytoobnanbhniolaa
open Go.RowKit Bx

def ToldInv (v : Value) (x : List Int) (i k : Nat) (vf : Value) (w : World) (a : Act) (w' : World) : Prop :=
  a.defers = [] ∧ a.tmps.size = 33 ∧ a.tmps[0]? = some v ∧ a.tmps[1]? = some (.int .i64 (i : Int)) ∧ a.tmps[7]? = some vf ∧
  ∃ j : Nat, j ≤ k ∧ a.tmps[9]? = some (.int .i64 (j : Int)) ∧ a.tmps[8]? = some (.int .i64 (ts (fac k) x i j)) ∧ Kept Nix w w'

theorem told_nums (x : List Int) (i k j : Nat) (hk : k ≤ 4) (hi : i < 1099511627776) (hki : k ≤ i) (hix : i ≤ x.length) (hj : j < k) (hb : Bd 1099511627776 x) :
    IntKind.i64.wrap ((i : Int) - 1) = ((i - 1 : Nat) : Int) ∧ IntKind.i64.wrap (((i - 1 : Nat) : Int) - (j : Int)) = ((i - 1 - j : Nat) : Int) ∧ IntKind.i64.wrap ((fac k).getD j 0 * x.getD (i - 1 - j) 0) = (fac k).getD j 0 * x.getD (i - 1 - j) 0 ∧
    IntKind.i64.wrap (ts (fac k) x i j + (fac k).getD j 0 * x.getD (i - 1 - j) 0) = ts (fac k) x i (j + 1) ∧ wrap64 ((j : Int) + 1) = ((j + 1 : Nat) : Int) ∧ ((i - 1 - j : Nat) : Int) < (x.length : Int) ∧ (j : Int) < (k : Int) ∧ i - 1 - j < x.length ∧
    wrap64 ((fac k).getD j 0 * x.getD (i - 1 - j) 0) = (fac k).getD j 0 * x.getD (i - 1 - j) 0 ∧ wrap64 (ts (fac k) x i j + (fac k).getD j 0 * x.getD (i - 1 - j) 0) = ts (fac k) x i (j + 1) := by
  have hF := (fac_bd k).any (by decide) j
  have hx := hb.any (by decide) (i - 1 - j)
  have h1 := mul_bd _ _ 1099511627776 hF.1 hF.2 hx.1 hx.2
  have h2 := ts_bd (fac_bd k) hb (by decide) i (j + 1) (by omega)
  refine ⟨?_, ?_, ?_, ?_, ?_, ?_, ?_, ?_, ?_, ?_⟩
  · rw [IntWalk.i64_in _ (by omega)]; omega
  · rw [IntWalk.i64_in _ (by omega)]; omega
  · exact IntWalk.i64_in _ (by omega)
  · exact IntWalk.i64_in _ (by rw [ts] at h2; omega)
  · unfold wrap64; omega
  · omega
  · omega
  · omega
  · exact w64_in _ (by omega)
  · exact w64_in _ (by rw [ts] at h2; omega)

set_option maxHeartbeats 1000000 in
theorem told_any (v : Value) (x : List Int) (i k : Nat) (w : World) (hs : Sl w v (ivs x)) (hk : k ≤ 4) (hki : k ≤ i) (hix : i ≤ x.length) (hl : x.length < 1099511627776) (hb : Bd 1099511627776 x) :
    Calls Try.prog 20 #[v, .int .i64 (i : Int), .int .i64 (k : Int)] w fun e w' => e = .returned (.int .i64 (ts (fac k) x i k)) ∧ Kept Nix w w' := by
  obtain ⟨ao, cap, rfl, _⟩ := hs.ints
  have HS := Lib.hid hs
  have HB := Lib.hid hb
  have HK := Lib.hid hk
  have HKI := Lib.hid hki
  have HIX := Lib.hid hix
  have HL := Lib.hid hl
  have HF := Lib.hid (rfac_any (k : Int) w)
  have hfl := fac_length k hk
  have HFL := Lib.hid hfl
  clear hs hb hk hki hix hl hfl
  go_enter Try.func20, Try.ntmps20
  go_wp2_with (go_at_call 15; refine HF.out.mono ?_; rintro e w2 ⟨u2, rfl, ho2, hk2⟩; rw [show ((k : Int)).toNat = k from rfl, HFL.out] at ho2; have HO2 := Lib.hid ho2; have HK2 := Lib.hid hk2; clear ho2 hk2)
  refine wp_loop (ToldInv (.slice ao x.length cap) x i k u2 w2) (fun a _ => k - (intOf (a.tmps.getD 9 undef)).toNat) ?_ ?_
  · exact ⟨rfl, rfl, rfl, rfl, rfl, 0, Nat.zero_le _, rfl, rfl, Kept.refl _ _⟩
  · rintro ⟨tm, df⟩ w1 ⟨rfl, hs, h0, h1, h7, j, hj, h9, h8, hkp⟩
    simp only at hs h0 h1 h7 h9 h8
    obtain ⟨f, hf, hg⟩ := fr_open hs
    have e0 := hg _ _ h0
    have e1 := hg _ _ h1
    have e7 := hg _ _ h7
    have e9 := hg _ _ h9
    have e8 := hg _ _ h8
    simp only [List.range, List.range.loop, List.map] at hf
    rw [e0, e1, e7, e9, e8] at hf
    clear e0 e1 e7 e9 e8 hg hs h0 h1 h7 h9 h8
    subst hf
    have HKP := Lib.hid hkp
    have o1 := hkp.owns HO2.out (fun _ _ h => h)
    by_cases hlt : j < k
    · obtain ⟨g, fcap, rfl, _, _, _, _⟩ := owns_pos o1 (by omega)
      obtain ⟨n1, n2, n3, n4, n5, n6, n7, n8, m3, m4⟩ := told_nums x i k j HK.out (by have := HIX.out; have := HL.out; omega) HKI.out HIX.out hlt HB.out
      have c1 : w1.cell? ⟨g, j, none⟩ = some (.int .i64 ((fac k).getD j 0)) := by rw [o1.cellAt j (by rw [Nat.mul_one]; exact hlt), ivs_get _ _ (by rw [HFL.out]; exact hlt)]
      obtain ⟨b, off, rfl, _, hcx⟩ : ∃ b off, ao = some ⟨b, off, none⟩ ∧ b < w1.heap.size ∧ ∀ j, j < x.length → w1.cell? ⟨b, off + j, none⟩ = some (.int .i64 (x.getD j 0)) := by
        obtain ⟨ao', cap', e, _, _, hp⟩ := (HS.out.nix (nix_trans HK2.out hkp)).ints
        simp only [Value.slice.injEq] at e
        obtain ⟨rfl, _, _⟩ := e
        exact hp (Nat.lt_of_le_of_lt (Nat.zero_le _) n8)
      have c2 := hcx _ n8
      have hdd : decide (j < k) = true := decide_eq_true hlt
      have HJ := Lib.hid hlt
      clear hcx o1 hkp hlt hj n8
      generalize hi1 : i - 1 - j = ij at *
      generalize i - 1 = i1 at *
      generalize ts (fac k) x i j = t0 at *
      generalize (fac k).getD j 0 = fj at *
      generalize x.getD ij 0 = xj at *
      generalize ht1 : ts (fac k) x i (j + 1) = t1 at *
      have HT1 := Lib.hid ht1
      generalize hj' : j + 1 = j' at *
      have HJ' := Lib.hid hj'
      clear hj' ht1 hi1
      have M := Lib.hid (And.intro m3 (And.intro m4 n5))
      clear m3 m4 n5
      go_wp2
      go_quiet (fail)
      go_wp2
      rw [M.out.2.2]
      refine ⟨⟨rfl, rfl, rfl, rfl, rfl, j', ?_, rfl, ?_, HKP.out.drewN _⟩, nearer HJ.out HJ'.out⟩
      · rw [← HJ'.out]; exact HJ.out
      · rw [HT1.out]; rfl
    · have hdd : decide (j < k) = false := decide_eq_false hlt
      have hje : j = k := by omega
      subst hje
      obtain ⟨fo, fcap, rfl, _, _⟩ := owns_shape o1
      clear hj hlt hkp o1
      go_wp2
      go_ret
      exact ⟨rfl, nix_trans HK2.out HKP.out⟩

end Go.Proofs.Ytoobnanbhniolaa
