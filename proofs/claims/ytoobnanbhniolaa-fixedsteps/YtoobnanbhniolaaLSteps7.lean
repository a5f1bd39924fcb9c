/- The walk of FixedSteps. -/
import Derived.Test.YtoobnanbhniolaaLTells7
namespace Go.Proofs.Ytoobnanbhniolaa
open Go.RowKit Bx

def StepInv (va vb : Value) (w : World) (m : Nat) (a : Act) (w' : World) : Prop :=
  a.defers = [] ∧ a.tmps.size = 82 ∧ a.tmps[5]? = some (.bool true) ∧ a.tmps[8]? = some va ∧ a.tmps[10]? = some vb ∧ ∃ i : Nat, i ≤ m ∧ a.tmps[12]? = some (.int .i64 (i : Int)) ∧ ∃ n, w' = w.drewN n

theorem step_nums (zs : List Int) (k i : Nat) (hk : k ≤ 3) (hi : i + (k + 1) < zs.length) (hl : zs.length ≤ 100) (hb : Bd 1099511627776 zs) :
    IntKind.i64.wrap ((dn k zs).getD (i + 1) 0 - (dn k zs).getD i 0) = (dn (k + 1) zs).getD i 0 ∧ IntKind.i64.wrap ((i : Int) + 1) = ((i + 1 : Nat) : Int) ∧ wrap64 ((i : Int) + 1) = ((i + 1 : Nat) : Int) := by
  have h := (hb.dn (by decide) (k + 1) (by omega)).any (by decide) i
  rw [← dn_get k zs i (by omega)]
  refine ⟨IntWalk.i64_in _ (by omega), ?_, ?_⟩
  · rw [IntWalk.i64_in _ (by omega)]; simp
  · unfold wrap64; omega

theorem step_sizes (n k : Nat) (h : k ≤ 3) (h2 : k < n) (h3 : n ≤ 100) : wrap64 ((k : Int) + 1) = ((k + 1 : Nat) : Int) ∧ wrap64 (((n - k : Nat) : Int) - 1) = ((n - (k + 1) : Nat) : Int) := by
  constructor <;> (unfold wrap64; omega)

set_option maxHeartbeats 2000000 in
theorem walk_FixedSteps (w : World) (v : Value) (zs : List Int) (hs : Sl w v (zs.map (Value.int .i64))) (_ : ∀ n ∈ zs, (Lit.int .i64 n).wf = true) (order : Int) (wo : (Lit.int .u8 order).wf = true) :
    Calls Try.prog 6 #[v, .int .u8 order] w fun e w' => e = .returned (.bool true) ∧ Kept Nix w w' := by
  have HA := awake_any w
  obtain ⟨o, rfl, ho⟩ := nat_u8 wo
  obtain ⟨ao, cap, rfl, _⟩ := hs.ints
  obtain ⟨k, hk⟩ : ∃ k : Nat, k = o % 4 := ⟨_, rfl⟩
  have hkm : (o : Int) % 4 = (k : Int) := by omega
  have HS := Lib.hid (sl_ivs hs)
  have HK3 := Lib.hid (show k ≤ 3 by omega)
  clear hs wo ho hk
  go_enter Try.func6, Try.ntmps6
  go_upto_region 4 with (first
    | (go_at_call 9; refine HA.mono ?_; rintro e w1 ⟨rfl, k1⟩; have K1 := Lib.hid k1; clear k1; have NR := Lib.hid (rnear_any _ zs w1 (HS.out.nix K1.out)))
    | (go_at_call 10; refine NR.out.mono ?_; rintro e w2 ⟨rfl, rfl⟩; clear NR))
  generalize (o : Int) % 4 = om at *
  clear hkm
  by_cases hlen : 100 < zs.length
  · have hd : decide ((100 : Int) < (zs.length : Int)) = true := decide_eq_true (by omega)
    clear hlen
    go_wp2
    go_ret
    exact ⟨rfl, K1.out⟩
  · have hd : decide ((100 : Int) < (zs.length : Int)) = false := decide_eq_false (by omega)
    have HL := Lib.hid (show zs.length < 1099511627776 by omega)
    have HL1 := Lib.hid (show zs.length ≤ 100 by omega)
    cases hn : near zs with
    | false =>
      clear hlen
      go_wp2
      go_ret
      exact ⟨rfl, K1.out⟩
    | true =>
      have HB := Lib.hid (near_bd hn)
      clear hlen hn
      by_cases hkl : zs.length ≤ k
      · have d1 : decide (zs.length ≤ k) = true := decide_eq_true hkl
        clear hkl
        go_wp2
        go_ret
        exact ⟨rfl, K1.out⟩
      · have d1 : decide (zs.length ≤ k) = false := decide_eq_false hkl
        have hk3 := HK3.out
        have R1 := Lib.hid (res_any _ zs (k : Int) w2 (HS.out.nix K1.out) HL.out HB.out)
        have E1 := Lib.hid (resE_ok (n := zs.length) (k := k) (by omega) (by omega))
        have L1 := Lib.hid (resL_ok (zs := zs) (k := k) (by omega) (by omega))
        have E2 := Lib.hid (resE_ok (n := zs.length) (k := k + 1) (by omega) (by omega))
        have L2 := Lib.hid (resL_ok (zs := zs) (k := k + 1) (by omega) (by omega))
        obtain ⟨z1, z2⟩ := step_sizes zs.length k hk3 (by omega) HL1.out
        have D1 := Lib.hid (dn_length k zs)
        have D2 := Lib.hid (dn_length (k + 1) zs)
        have HKL := Lib.hid (show k + 1 ≤ zs.length by omega)
        clear hkl hk3
        generalize hnk : zs.length - k = nk at *
        generalize hnk1 : zs.length - (k + 1) = nk1 at *
        have HNK := Lib.hid hnk
        have HNK1 := Lib.hid hnk1
        generalize hk1 : k + 1 = k1 at *
        have HK1 := Lib.hid hk1
        have hne : ((nk1 : Int) != (nk1 : Int)) = false := bne_self_eq_false _
        clear hnk hnk1 hk1
        go_upto_region 10 with (first
          | (go_at_call 11; refine R1.out.mono ?_; rintro e w3 ⟨u3, rfl, ho3, hk3⟩; rw [E1.out]; rw [L1.out, D1.out] at ho3; have HO3 := Lib.hid ho3; have K3 := Lib.hid (nix_trans K1.out hk3); obtain ⟨ao3, cap3, rfl, _, _⟩ := owns_shape ho3; clear ho3 hk3 R1
             have R2 := Lib.hid (res_any _ zs (k1 : Int) w3 (HS.out.nix K3.out) HL.out HB.out))
          | (go_at_call 11; refine R2.out.mono ?_; rintro e w4 ⟨u4, rfl, ho4, hk4⟩; rw [E2.out]; rw [L2.out, D2.out] at ho4; have HO4 := Lib.hid ho4; have K4 := Lib.hid (nix_trans K3.out hk4); have HP3 := Lib.hid (hk4.owns HO3.out (fun _ _ h => h)); obtain ⟨ao4, cap4, rfl, _, _⟩ := owns_shape ho4; clear ho4 hk4 R2))
        clear hne d1 hd z1 z2
        go_upto_region 11 with fail
        refine wp_loop (StepInv (.slice ao3 nk cap3) (.slice ao4 nk1 cap4) w4 nk1) (fun a _ => nk1 - (intOf (a.tmps.getD 12 undef)).toNat) ?_ ?_
        · exact ⟨rfl, rfl, rfl, rfl, rfl, 0, Nat.zero_le _, rfl, 0, rfl⟩
        · clear E1 L1 E2 L2 HO3
          rintro ⟨tm, df⟩ w5 ⟨rfl, hs, h5, h8, h10, i, hi, h12, n5, rfl⟩
          simp only at hs h5 h8 h10 h12
          obtain ⟨f, hf, hg⟩ := fr_open hs
          have e5 := hg _ _ h5
          have e8 := hg _ _ h8
          have e10 := hg _ _ h10
          have e12 := hg _ _ h12
          simp only [List.range, List.range.loop, List.map] at hf
          rw [e5, e8, e10, e12] at hf
          clear e5 e8 e10 e12 hg hs h5 h8 h10 h12
          subst hf
          by_cases hlt : i < nk1
          · have hkk := HKL.out
            have hkk1 := HK1.out
            have hkk2 := HNK.out
            have hkk3 := HNK1.out
            obtain ⟨g3, c3, e3, _, _, _, _⟩ := owns_pos HP3.out (by omega)
            obtain ⟨g4, c4, e4, _, _, _, _⟩ := owns_pos HO4.out (by omega)
            simp only [Value.slice.injEq, true_and] at e3 e4
            obtain ⟨rfl, rfl⟩ := e3
            obtain ⟨rfl, rfl⟩ := e4
            have c1 : w4.cell? ⟨g4, i, none⟩ = some (.int .i64 ((dn k1 zs).getD i 0)) := by
              rw [HO4.out.cellAt i (by omega), ivs_get _ _ (by rw [D2.out]; exact hlt)]
            have c2 : w4.cell? ⟨g3, i, none⟩ = some (.int .i64 ((dn k zs).getD i 0)) := by
              rw [HP3.out.cellAt i (by omega), ivs_get _ _ (by rw [D1.out]; omega)]
            have c3 : w4.cell? ⟨g3, i + 1, none⟩ = some (.int .i64 ((dn k zs).getD (i + 1) 0)) := by
              rw [HP3.out.cellAt (i + 1) (by omega), ivs_get _ _ (by rw [D1.out]; omega)]
            have hi1 : (i : Int) < (nk1 : Int) := by omega
            have hi2 : (i : Int) < (nk : Int) := by omega
            have hi3 : ((i + 1 : Nat) : Int) < (nk : Int) := by omega
            have hdd : decide (i < nk1) = true := decide_eq_true hlt
            obtain ⟨m1, m2, m3⟩ := step_nums zs k i HK3.out (by omega) HL1.out HB.out
            rw [hkk1] at m1
            have HI := Lib.hid hlt

            clear hkk hkk1 hkk2 hkk3 hlt hi m3
            generalize (dn k1 zs).getD i 0 = y at *
            generalize (dn k zs).getD i 0 = x at *
            generalize (dn k zs).getD (i + 1) 0 = x' at *
            generalize hi' : i + 1 = i' at *
            have HI' := Lib.hid hi'
            have hyy : (y != y) = false := bne_self_eq_false _
            clear hi'
            go_wp2
            go_quiet (fail)
            go_wp2
            refine ⟨⟨rfl, rfl, rfl, rfl, rfl, i', ?_, rfl, _, rfl⟩, nearer HI.out HI'.out⟩
            rw [← HI'.out]; exact HI.out
          · have hdd : decide (i < nk1) = false := decide_eq_false hlt
            clear hlt hi
            go_wp2
            go_ret
            exact ⟨rfl, K4.out.drewN _⟩

end Go.Proofs.Ytoobnanbhniolaa
