/- The walk of FixedRestores. -/
import Derived.Test.YtoobnanbhniolaaLBack7
namespace Go.Proofs.Ytoobnanbhniolaa
open Go.RowKit Bx

/-- What both restore, and what is wrong. -/
def rsR (A B : List Int) : List Int := if 4 < A.length then [] else rst A.length A B
def rsE (A : List Int) : Int := if 4 < A.length then 1 else 0

def RRPost (A B : List Int) (w : World) (e : Ending) (w' : World) : Prop :=
  ∃ u, e = .returned (.tuple #[u, .int .i64 (rsE A)]) ∧ w'.ownsRow w.heap.size 3 1 u (rsR A B).length (ivs (rsR A B)) ∧ Kept Nix w w'

theorem rrst_call (vw vr : Value) (A B : List Int) (w : World) (hA : Sl w vw (ivs A)) (hB : Sl w vr (ivs B)) (hl : B.length < 1000000) (hb : Bd 1099511627776 B) (hp : ∀ j, j < B.length → near (rsR A (B.take j)) = true) :
    Calls Try.prog 16 #[vw, vr] w (RRPost A B w) := by
  unfold RRPost rsR rsE
  by_cases h4 : 4 < A.length
  · refine (rrst_bad vw vr A w hA h4).mono ?_
    rintro e w' ⟨rfl, rfl⟩
    rw [if_pos h4, if_pos h4]
    exact ⟨_, rfl, World.ownsRow_nil _ _ _ _, Kept.refl _ _⟩
  · refine (rrst_any vw vr A B A.length w hA hB rfl (by omega) hl hb (fun j hj => near_bd ?_)).mono ?_
    · have := hp j hj
      unfold rsR at this
      rwa [if_neg h4] at this
    · intro e w' h
      rw [if_neg h4, if_neg h4]
      exact h

theorem rst_call (vw vr : Value) (A B : List Int) (w : World) (hA : Sl w vw (ivs A)) (hB : Sl w vr (ivs B)) (hl : B.length < 1000000) (hp : near (rsR A B) = true) :
    Calls Try.prog 17 #[vw, vr] w (RRPost A B w) := by
  unfold RRPost rsR rsE
  by_cases h4 : 4 < A.length
  · refine (rst_bad vw vr A w hA h4).mono ?_
    rintro e w' ⟨rfl, rfl⟩
    rw [if_pos h4, if_pos h4]
    exact ⟨_, rfl, World.ownsRow_nil _ _ _ _, Kept.refl _ _⟩
  · obtain ⟨h1, h2⟩ := rst_back A.length (by omega) A B rfl
    unfold rsR at hp
    rw [if_neg h4] at hp
    have hx := rst_length A.length A B
    refine (rst_any A.length (rst A.length A B) vw vr w (by omega) (by omega) (by omega) (near_bd hp) (by rw [h2]; exact hA) (by rw [h1]; exact hB)).mono ?_
    intro e w' h
    rw [if_neg h4, if_neg h4]
    exact h

def RstLoop (vw vr : Value) (A B : List Int) (w : World) (ac : Act) (w' : World) : Prop :=
  ac.defers = [] ∧ ac.tmps.size = 80 ∧ ac.tmps[0]? = some vw ∧ ac.tmps[1]? = some vr ∧ ac.tmps[5]? = some (.bool true) ∧
  ∃ i : Nat, i ≤ B.length + 1 ∧ ac.tmps[8]? = some (.int .i64 (i : Int)) ∧ (∀ j, j < i → near (rsR A (B.take j)) = true) ∧ Kept Nix w w'

theorem rsl_nums (i n : Nat) (h : i ≤ n) (hn : n ≤ 60) : wrap64 ((i : Int) + 1) = ((i + 1 : Nat) : Int) := by unfold wrap64; omega

set_option maxHeartbeats 4000000 in
theorem walk_FixedRestores (w : World) (vw : Value) (A : List Int) (hA : Sl w vw (A.map (Value.int .i64))) (_ : ∀ n ∈ A, (Lit.int .i64 n).wf = true) (vr : Value) (B : List Int) (hB : Sl w vr (B.map (Value.int .i64))) (_ : ∀ n ∈ B, (Lit.int .i64 n).wf = true) :
    Calls Try.prog 4 #[vw, vr] w fun e w' => e = .returned (.bool true) ∧ Kept Nix w w' := by
  have HAW := awake_any w
  obtain ⟨ao, acap, rfl, -⟩ := hA.ints
  obtain ⟨bo, bcap, rfl, hbc, -⟩ := hB.ints
  have HA := Lib.hid (sl_ivs hA)
  have HB := Lib.hid (sl_ivs hB)
  have HBC := Lib.hid hbc
  clear hA hB hbc
  go_enter Try.func4, Try.ntmps4
  go_upto_region 4 with (first
    | (go_at_call 9; refine HAW.mono ?_; rintro e w1 ⟨rfl, k1⟩; have K1 := Lib.hid k1; clear k1; have NA := Lib.hid (rnear_any _ A w1 (HA.out.nix K1.out)); have NB := Lib.hid (rnear_any _ B w1 (HB.out.nix K1.out)))
    | (go_at_call 10; refine NA.out.mono ?_; rintro e w2 ⟨rfl, h2⟩; rw [h2]; clear h2 w2 NA)
    | (go_at_call 10; refine NB.out.mono ?_; rintro e w2 ⟨rfl, h2⟩; rw [h2]; clear h2 w2 NB))
  clear HAW
  by_cases h10 : 10 < A.length
  · have hd : decide ((10 : Int) < (A.length : Int)) = true := decide_eq_true (by omega)
    clear h10
    go_wp2
    go_ret
    exact ⟨rfl, K1.out⟩
  have hd : decide ((10 : Int) < (A.length : Int)) = false := decide_eq_false (by omega)
  by_cases h60 : 60 < B.length
  · have hd2 : decide ((60 : Int) < (B.length : Int)) = true := decide_eq_true (by omega)
    clear h10 h60
    go_wp2
    go_ret
    exact ⟨rfl, K1.out⟩
  have hd2 : decide ((60 : Int) < (B.length : Int)) = false := decide_eq_false (by omega)
  have HL := Lib.hid (show B.length ≤ 60 by omega)
  have HLA := Lib.hid (show A.length ≤ 10 by omega)
  clear h10 h60
  cases hna : near A with
  | false =>
    go_wp2
    go_ret
    exact ⟨rfl, K1.out⟩
  | true =>
    cases hnb : near B with
    | false =>
      go_wp2
      go_ret
      exact ⟨rfl, K1.out⟩
    | true =>
      have BB := Lib.hid (near_bd hnb)
      clear hna hnb
      go_upto_region 7 with fail
      clear hd hd2
      refine wp_loop (RstLoop (.slice ao A.length acap) (.slice bo B.length bcap) A B w1) (fun ac _ => B.length + 1 - (intOf (ac.tmps.getD 8 undef)).toNat) ?_ ?_
      · exact ⟨rfl, rfl, rfl, rfl, rfl, 0, Nat.zero_le _, rfl, fun j hj => absurd hj (by omega), Kept.refl _ _⟩
      · rintro ⟨tm, df⟩ w2 ⟨rfl, hs, h0, h1, h5, i, hi, h8, hnr, hkp⟩
        simp only at hs h0 h1 h5 h8
        obtain ⟨f, hf, hg⟩ := fr_open hs
        have e0 := hg _ _ h0
        have e1 := hg _ _ h1
        have e5 := hg _ _ h5
        have e8 := hg _ _ h8
        simp only [List.range, List.range.loop, List.map] at hf
        rw [e0, e1, e5, e8] at hf
        clear e0 e1 e5 e8 hg hs h0 h1 h5 h8
        subst hf
        have HKP := Lib.hid hkp
        have HNR := Lib.hid hnr
        clear hkp hnr
        by_cases hle : i ≤ B.length
        · have hdd : decide (i ≤ B.length) = true := decide_eq_true hle
          have hf1 := fun w => run_upto_i w bo B.length bcap i (Nat.le_trans hle HBC.out)
          have hf2 := fun w => run_upto_i_at w bo B.length bcap i (Nat.le_trans hle HBC.out)
          have htl : (B.take i).length = i := by simp; omega
          have RR := Lib.hid (rrst_call _ _ A (B.take i) w2 (HA.out.nix (nix_trans K1.out HKP.out)) (sl_take_i (HB.out.nix (nix_trans K1.out HKP.out)) i hle) (by rw [htl]; have := HL.out; omega) (BB.out.take i) (fun j hj => by
            rw [htl] at hj
            rw [List.take_take, Nat.min_eq_left (by omega)]
            exact HNR.out j hj))
          have M := Lib.hid (rsl_nums i B.length hle HL.out)
          have HLE := Lib.hid hle
          clear hle hi htl
          generalize hE : rsE A = E at *
          have HE := Lib.hid hE
          clear hE
          cases hnz : near (rsR A (B.take i)) with
          | false =>
            have HNZ := Lib.hid hnz
            clear hnz
            go_wp2_with (first
              | (go_at_call 16; refine RR.out.mono ?_; rintro e w3 ⟨u3, rfl, ho3, hk3⟩; rw [HE.out]; have K3 := Lib.hid (nix_trans HKP.out hk3); have NZ := Lib.hid (rnear_any u3 _ w3 (sl_of_owns ho3)); clear ho3 hk3 RR)
              | (go_at_call 10; refine NZ.out.mono ?_; rintro e w4 ⟨rfl, h4⟩; rw [h4, HNZ.out]; clear h4 w4 NZ))
            go_ret
            exact ⟨rfl, nix_trans K1.out K3.out⟩
          | true =>
            have HNZ := Lib.hid hnz
            clear hnz
            go_wp2_with (first
              | (go_at_call 16; refine RR.out.mono ?_; rintro e w3 ⟨u3, rfl, ho3, hk3⟩; rw [HE.out]; have K3 := Lib.hid (nix_trans HKP.out hk3); have NZ := Lib.hid (rnear_any u3 _ w3 (sl_of_owns ho3)); clear ho3 hk3 RR)
              | (go_at_call 10; refine NZ.out.mono ?_; rintro e w4 ⟨rfl, h4⟩; rw [h4, HNZ.out]; clear h4 w4 NZ))
            rw [M.out]
            refine ⟨⟨rfl, rfl, rfl, rfl, rfl, i + 1, Nat.succ_le_succ HLE.out, rfl, ?_, K3.out⟩, nearer (Nat.lt_succ_of_le HLE.out) rfl⟩
            intro j hj
            by_cases hji : j < i
            · exact HNR.out j hji
            · rw [show j = i by omega]; exact HNZ.out
        · have hdd : decide (i ≤ B.length) = false := decide_eq_false hle
          have HN0 := Lib.hid (show near (rsR A B) = true by
            have h := HNR.out B.length (by omega)
            rwa [List.take_length] at h)
          have R1 := Lib.hid (rst_call _ _ A B w2 (HA.out.nix (nix_trans K1.out HKP.out)) (HB.out.nix (nix_trans K1.out HKP.out)) (by have := HL.out; omega) HN0.out)
          have R2 := Lib.hid (show ∀ w', Kept Nix w1 w' → Calls Try.prog 16 #[.slice ao A.length acap, .slice bo B.length bcap] w' (RRPost A B w') from fun w' hk' => rrst_call _ _ A B w' (HA.out.nix (nix_trans K1.out hk')) (HB.out.nix (nix_trans K1.out hk')) (by have := HL.out; omega) BB.out (fun j hj => HNR.out j (by omega)))
          have HRL := Lib.hid (show (rsR A B).length < 1099511627776 by
            have h1 := HL.out
            have h2 := HLA.out
            unfold rsR
            split
            · simp
            · rw [rst_length]; omega)
          clear hle hi
          generalize hE : rsE A = E at *
          have HE := Lib.hid hE
          have hEE : (E == E) = true := beq_self_eq_true E
          clear hE
          go_wp2_with (first
            | (go_at_call 17; refine R1.out.mono ?_; rintro e w3 ⟨u3, rfl, ho3, hk3⟩; rw [HE.out]; have HO3 := Lib.hid ho3; have K3 := Lib.hid (nix_trans HKP.out hk3); clear ho3 hk3 R1)
            | (go_at_call 16; refine (R2.out _ K3.out).mono ?_; rintro e w4 ⟨u4, rfl, ho4, hk4⟩; rw [HE.out]; have K4 := Lib.hid (nix_trans K3.out hk4); have I1 := Lib.hid (ints_eq ((sl_of_owns HO3.out).nix hk4) (sl_of_owns ho4) HRL.out rfl); clear ho4 hk4)
            | (go_at_call 13; refine I1.out.mono ?_; rintro e w5 ⟨rfl, nn, rfl⟩; have K5 := Lib.hid (K4.out.drewN nn); clear I1; generalize w4.drewN nn = w5 at *))
          go_ret
          exact ⟨rfl, nix_trans K1.out K5.out⟩

end Go.Proofs.Ytoobnanbhniolaa
