/- The reference of layer 7: Residual. -/
import Derived.Test.YtoobnanbhniolaaFixTold
import Derived.Deep.RegionHeld3
namespace Go.Proofs.Ytoobnanbhniolaa
open Go.RowKit Bx

def RResInv (v : Value) (zs : List Int) (k : Nat) (w : World) (a : Act) (w' : World) : Prop :=
  a.defers = [] ∧ a.tmps.size = 38 ∧ a.tmps[0]? = some v ∧ a.tmps[1]? = some (.int .i64 (k : Int)) ∧
  ∃ i : Nat, k ≤ i ∧ i ≤ zs.length ∧ a.tmps[7]? = some (.int .i64 (i : Int)) ∧ ∃ u, a.tmps[6]? = some u ∧ w'.ownsRow w.heap.size 3 1 u (i - k) (ivs ((dn k zs).take (i - k))) ∧ Kept Nix w w'

theorem rres_nums (zs : List Int) (i k : Nat) (hk : k ≤ 4) (hki : k ≤ i) (hi : i < zs.length) (hl : zs.length < 1099511627776) (hb : Bd 1099511627776 zs) :
    IntKind.i64.wrap (zs.getD i 0 - ts (fac k) zs i k) = (dn k zs).getD (i - k) 0 ∧ wrap64 (zs.getD i 0 - ts (fac k) zs i k) = (dn k zs).getD (i - k) 0 ∧ wrap64 ((i : Int) + 1) = ((i + 1 : Nat) : Int) ∧ (i : Int) < (zs.length : Int) ∧ i + 1 - k = i - k + 1 ∧ i - k + 1 ≤ maxLen ∧ (i - k + 1) * 8 ≤ 140737488355328 ∧
    (dn k zs).take (i - k + 1) = (dn k zs).take (i - k) ++ [(dn k zs).getD (i - k) 0] := by
  have h1 := told_left k hk zs i hki hi
  have h2 := (hb.dn (by decide) k (by omega)).any (by decide) (i - k)
  rw [h1]
  refine ⟨IntWalk.i64_in _ (by omega), w64_in _ (by omega), ?_, by omega, by omega, ?_, by omega, ?_⟩
  · unfold wrap64; omega
  · simp only [maxLen]; omega
  · have h3 : i - k < (dn k zs).length := by rw [dn_length]; omega
    rw [List.take_succ_eq_append_getElem h3]
    simp [List.getD, h3]

set_option maxHeartbeats 2000000 in
theorem rres_any (u : Value) (zs : List Int) (order : Int) (w : World) (hs : Sl w u (ivs zs)) (hl : zs.length < 1099511627776) (hb : Bd 1099511627776 zs) :
    Calls Try.prog 12 #[u, .int .i64 order] w (ResPost zs order w) := by
  obtain ⟨ao, cap, rfl, _⟩ := hs.ints
  have HN := Lib.hid (World.ownsRow_nil w w.heap.size 3 1)
  by_cases h1 : order < 0 ∨ 4 < order
  · have HP : Hid (ResPost zs order w (.returned (.tuple #[.slice none 0 0, .int .i64 1])) w) := Lib.hid (by
      have h0 : ¬ resE zs.length order = 0 := by rw [resE_arg _ h1]; decide
      refine ⟨_, by rw [resE_arg _ h1], ?_, Kept.refl _ _⟩
      rw [resL_bad h0]
      exact HN.out)
    clear hs hl hb
    by_cases h2 : order < 0
    · have hd : decide (order < 0) = true := decide_eq_true h2
      clear h1 h2
      go_enter Try.func12, Try.ntmps12
      go_wp2
      go_ret2
      exact HP.out
    · have hd : decide (order < 0) = false := decide_eq_false h2
      have hd2 : decide (4 < order) = true := decide_eq_true (by omega)
      clear h1 h2
      go_enter Try.func12, Try.ntmps12
      go_wp2
      go_ret2
      exact HP.out
  · obtain ⟨k, rfl⟩ := Int.eq_ofNat_of_zero_le (show 0 ≤ order by omega)
    by_cases h2 : (zs.length : Int) < (k : Int)
    · have HP : Hid (ResPost zs (k : Int) w (.returned (.tuple #[.slice none 0 0, .int .i64 2])) w) := Lib.hid (by
        have h0 : ¬ resE zs.length (k : Int) = 0 := by rw [resE_short h1 h2]; decide
        refine ⟨_, by rw [resE_short h1 h2], ?_, Kept.refl _ _⟩
        rw [resL_bad h0]
        exact HN.out)
      have hd1 : decide ((k : Int) < 0) = false := decide_eq_false (by omega)
      have hd2 : decide ((4 : Int) < (k : Int)) = false := decide_eq_false (by omega)
      have hd3 : decide (zs.length < k) = true := decide_eq_true (by omega)
      clear hs hl hb h1 h2
      go_enter Try.func12, Try.ntmps12
      go_wp2
      go_ret2
      exact HP.out
    · have hk4 : k ≤ 4 := by omega
      have hkl : k ≤ zs.length := by omega
      obtain ⟨hd1, hd2, hd3⟩ := res_sizes zs.length k hk4 hkl
      have HP : Hid (∀ u w', w'.ownsRow w.heap.size 3 1 u (dn k zs).length (ivs (dn k zs)) → Kept Nix w w' → ResPost zs (k : Int) w (.returned (.tuple #[u, .int .i64 0])) w') := Lib.hid (fun u w' ho hk => ⟨u, by rw [resE_ok hk4 hkl], by rw [resL_ok hk4 hkl]; exact ho, hk⟩)
      have HS := Lib.hid hs
      have HB := Lib.hid hb
      have HK4 := Lib.hid hk4
      have HKL := Lib.hid hkl
      have HL := Lib.hid hl
      clear hs hl hb h1 h2 hk4 hkl
      go_enter Try.func12, Try.ntmps12
      go_wp2
      clear hd1 hd2 hd3
      refine wp_loop (RResInv (.slice ao zs.length cap) zs k w) (fun a _ => zs.length - (intOf (a.tmps.getD 7 undef)).toNat) ?_ ?_
      · refine ⟨rfl, rfl, rfl, rfl, k, Nat.le_refl _, HKL.out, rfl, _, rfl, ?_, Kept.refl _ _⟩
        rw [Nat.sub_self]
        exact HN.out
      · rintro ⟨tm, df⟩ w1 ⟨rfl, hs, h0, h1, i, hki, hi, h7, u, h6, hou, hkp⟩
        simp only at hs h0 h1 h7 h6
        obtain ⟨f, hf, hg⟩ := fr_open hs
        have e0 := hg _ _ h0
        have e1 := hg _ _ h1
        have e7 := hg _ _ h7
        have e6 := hg _ _ h6
        simp only [List.range, List.range.loop, List.map] at hf
        rw [e0, e1, e7, e6] at hf
        clear e0 e1 e7 e6 hg hs h0 h1 h7 h6
        subst hf
        have HKP := Lib.hid hkp
        have HOU := Lib.hid hou
        by_cases hlt : i < zs.length
        · have hdd : decide (i < zs.length) = true := decide_eq_true hlt
          obtain ⟨b, off, rfl, hbw, hcx⟩ : ∃ b off, ao = some ⟨b, off, none⟩ ∧ b < w.heap.size ∧ ∀ j, j < zs.length → w.cell? ⟨b, off + j, none⟩ = some (.int .i64 (zs.getD j 0)) := by
            obtain ⟨ao', cap', e, _, _, hp⟩ := HS.out.ints
            simp only [Value.slice.injEq] at e
            obtain ⟨rfl, _, _⟩ := e
            exact hp (by omega)
          have hc0 := hcx i hlt
          have CL := Lib.hid (show ∀ w', Kept Nix w w' → w'.cell? ⟨b, off + i, none⟩ = some (.int .i64 (zs.getD i 0)) from fun w' hk' => (World.cell?_of_block (hk'.block _ hbw id)).trans hc0)
          obtain ⟨n1, n2, n3, n4, n5, n6, n7, n8⟩ := rres_nums zs i k HK4.out hki hlt HL.out HB.out
          have TD := Lib.hid (told_any _ zs i k w1.drew (HS.out.nix (HKP.out.drew)) HK4.out hki (by omega) HL.out HB.out)
          have N3 := Lib.hid n3
          have N5 := Lib.hid n5
          have N6 := Lib.hid n6
          have N7 := Lib.hid n7
          have N8 := Lib.hid n8
          have HI := Lib.hid hlt
          have HKI := Lib.hid hki
          have hc1 := CL.out w1 hkp
          clear hc0 hcx hbw n3 n5 n6 n7 n8 hlt hi hki hkp hou
          generalize zs.getD i 0 = xi at *
          generalize ts (fac k) zs i k = tk at *
          generalize (dn k zs).getD (i - k) 0 = yi at *
          go_wp2_with fail
          go_region_held3 (fun w' => w'.cell? ⟨b, off + i, none⟩ = some (.int .i64 xi))
            (first | go_keep | (exact HQ5.out) | (exact HQ6.out))
            (first
              | (go_at_call 20; refine TD.out.mono ?_; rintro e w5 ⟨rfl, k5⟩; have hk5 : Kept Nix w w5 := nix_trans HKP.out.drew k5; have HQ5 := Lib.hid (CL.out _ hk5); have K5 := Lib.hid hk5; have O5 := Lib.hid ((k5.owns (w := w1.drew) HOU.out (fun _ _ h => h)).alloc (.cells #[.int .i64 yi] 3)); clear k5 hk5)
              | (refine step_app (w5.alloc (.cells #[.int .i64 yi] 3)) rfl (.tmp 25) (.tmp 35) 22 rfl w.heap.size 3 (.int .i64 0) 1 8 Try.underlying22 info_int rfl (by decide) u _ _ rfl O5.out _ 1 1 [.int .i64 yi] rfl (src_one w5 _ _ rfl) N6.out N7.out (by have := K5.out.size; simp; omega) ?_; intro v6 w6 o6 g6 n6; have k6 : Kept Nix w w6 := (K5.out.alloc _).grown g6 (fun kk hkk => .inr (O5.out.lt kk hkk).1); have HQ6 := Lib.hid (CL.out _ k6); have K6 := Lib.hid k6; have O6 := Lib.hid o6; clear k6 o6 g6 n6))
          all_goals
            go_wp2_with fail
            rw [N3.out]
            refine ⟨⟨rfl, rfl, rfl, rfl, i + 1, Nat.le_succ_of_le HKI.out, HI.out, rfl, v6, rfl, ?_, K6.out⟩, nearer HI.out rfl⟩
            rw [N5.out, N8.out, ivs_append]
            exact O6.out
        · have hdd : decide (i < zs.length) = false := decide_eq_false hlt
          have hie : i = zs.length := by omega
          subst hie
          have h := HOU.out
          rw [List.take_of_length_le (by rw [dn_length]; exact Nat.le_refl _), ← dn_length] at h
          have HH := Lib.hid h
          clear hlt hi hki hkp hou h
          go_wp2
          go_ret2
          exact HP.out _ _ HH.out HKP.out

end Go.Proofs.Ytoobnanbhniolaa
