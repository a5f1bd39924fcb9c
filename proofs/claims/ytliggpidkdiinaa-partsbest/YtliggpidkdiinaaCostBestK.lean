/- Package cost: bestK. -/
import Derived.Test.YtliggpidkdiinaaCostEach
namespace Go.Proofs.Ytliggpidkdiinaa
open Go.RowKit Bx

/-- The sum, i numbers told: the others have k + 1 bits each so far. -/
def psum (L : List Int) (k i : Nat) : Nat := sN (L.take i) k + (L.length - i) * (k + 1)

theorem psum_zero (L : List Int) (k : Nat) : psum L k 0 = L.length * (k + 1) := by simp [psum, sN]
theorem psum_last (L : List Int) (k : Nat) : psum L k L.length = sN L k := by simp [psum]
theorem psum_step {L : List Int} {i : Nat} (hi : i < L.length) (k : Nat) : psum L k (i + 1) = psum L k i + fd (L.getD i 0) / 2 ^ k := by
  unfold psum
  rw [sN_step hi]
  obtain ⟨r, hr⟩ : ∃ r, L.length - i = r + 1 := ⟨L.length - i - 1, by omega⟩
  have hr2 : L.length - (i + 1) = r := by omega
  rw [hr, hr2, Nat.succ_mul]
  omega
theorem psum_le (L : List Int) (k i : Nat) : psum L k i ≤ sN L k := by
  have h : sN L k = sN (L.take i) k + sN (L.drop i) k := by rw [← sN_append, List.take_append_drop]
  have h2 := sN_low (L.drop i) k
  rw [List.length_drop] at h2
  unfold psum
  omega

def BkInv (v : Value) (L : List Int) (M : Int) (w : World) (a : Act) (w' : World) : Prop :=
  a.defers = [] ∧ a.tmps.size = 49 ∧ a.tmps[0]? = some v ∧ a.tmps[1]? = some (.int .i64 M) ∧ ∃ b k1 : Nat, k1 = b + 1 ∧ b ≤ kk M ∧ a.tmps[8]? = some (.int .i64 (k1 : Int)) ∧ a.tmps[6]? = some (.int .i64 (b : Int)) ∧ a.tmps[7]? = some (.int .i64 (sN L b : Int)) ∧ bk L b = b ∧ w' = w

def BkIn (v : Value) (L : List Int) (M : Int) (b k1 s0 : Nat) (w : World) (a : Act) (w' : World) : Prop :=
  a.defers = [] ∧ a.tmps.size = 49 ∧ a.tmps[0]? = some v ∧ a.tmps[1]? = some (.int .i64 M) ∧ a.tmps[8]? = some (.int .i64 (k1 : Int)) ∧ a.tmps[6]? = some (.int .i64 (b : Int)) ∧ a.tmps[7]? = some (.int .i64 (s0 : Int)) ∧ a.tmps[27]? = some v ∧ a.tmps[28]? = some (.int .i64 (L.length : Int)) ∧
  ∃ i : Nat, i ≤ L.length ∧ a.tmps[29]? = some (.int .i64 (i : Int)) ∧ a.tmps[9]? = some (.int .i64 (psum L k1 i : Int)) ∧ psum L k1 i < s0 ∧ w' = w

theorem bk_nums {L : List Int} {k1 k2 i : Nat} (hn : nrs L = true) (hl : L.length ≤ 1048576) (hk : k2 = k1 + 1) (hb : k1 ≤ 30) (hi : i < L.length) :
    ∃ z x : Nat, sz (L.getD i 0) (k1 : Int) = (z : Int) ∧ wrap64 ((z : Int) - (k2 : Int)) = (x : Int) ∧
    wrap64 ((psum L k1 i : Int) + (x : Int)) = (psum L k1 (i + 1) : Int) ∧ wrap64 ((i : Int) + 1) = ((i + 1 : Nat) : Int) := by
  subst hk
  have hr := nrs_get hn i hi
  have h1 := psum_step hi k1
  have h2 := psum_le L k1 (i + 1)
  have h3 := sN_big hn hl k1 hb
  have e : kk ((k1 : Nat) : Int) = k1 := by unfold kk; omega
  have es : sz (L.getD i 0) (k1 : Int) = ((fd (L.getD i 0) / 2 ^ k1 : Nat) : Int) + 1 + (k1 : Int) := by simp only [sz, hr, if_true, e]
  refine ⟨fd (L.getD i 0) / 2 ^ k1 + 1 + k1, fd (L.getD i 0) / 2 ^ k1, ?_⟩
  rw [es]
  generalize fd (L.getD i 0) / 2 ^ k1 = x at *
  refine ⟨by omega, ?_, ?_, ?_⟩
  · rw [w64_in _ (by omega)]; omega
  · rw [w64_in _ (by omega)]; omega
  · rw [w64_in _ (by omega)]; omega

theorem bk_head {L : List Int} {k1 k2 : Nat} (hl : L.length ≤ 1048576) (hk : k2 = k1 + 1) (hb : k1 ≤ 30) : wrap64 ((k1 : Int) + 1) = (k2 : Int) ∧ wrap64 ((L.length : Int) * (k2 : Int)) = (psum L k1 0 : Int) := by
  subst hk
  have h : L.length * (k1 + 1) ≤ 1048576 * 32 := Nat.mul_le_mul hl (by omega)
  have e : (L.length : Int) * ((k1 + 1 : Nat) : Int) = ((L.length * (k1 + 1) : Nat) : Int) := by simp
  rw [psum_zero, e]
  exact ⟨by rw [w64_in _ (by omega)]; omega, by rw [w64_in _ (by omega)]⟩

theorem nearer60 {k1 k2 : Nat} (h : k2 = k1 + 1) (hb : k1 ≤ 30) : 60 - k2 < 60 - k1 := by omega

set_option maxRecDepth 10000 in
set_option maxHeartbeats 2000000 in
theorem bestk_any (v : Value) (L : List Int) (M : Int) (w : World) (hv : Sl w v (ivs L)) (hl : L.length ≤ 1048576) (hn : nrs L = true) (hM : M ≤ 30) :
    Calls Try.prog 27 #[v, .int .i64 M] w fun e w' => e = .returned (.tuple #[.int .i64 (bk L (kk M) : Int), .int .i64 (sN L (bk L (kk M)) : Int)]) ∧ w' = w := by
  obtain ⟨ao, ca, rfl, -⟩ := hv.ints
  have HB := Lib.hid (show Calls Try.prog 31 #[.slice ao L.length ca, .int .i64 0] w fun e w' => e = .returned (.int .i64 (sN L 0 : Int)) ∧ w' = w by
    have h := cbits_any _ L 0 w hv hl
    rwa [show cbits L 0 = (sN L 0 : Int) by unfold cbits; rw [if_pos hn]; rfl] at h)
  have FIN := Lib.hid (fun b (h1 : bk L b = b) (h2 : b = kk M ∨ (b ≤ kk M ∧ sN L b ≤ sN L (b + 1))) => show Ending.returned (Value.tuple #[.int .i64 (b : Int), .int .i64 (sN L b : Int)]) = .returned (.tuple #[.int .i64 (bk L (kk M) : Int), .int .i64 (sN L (bk L (kk M)) : Int)]) by
    rcases h2 with rfl | ⟨h2, h3⟩
    · rw [h1]
    · rw [bk_at h1 h3 h2])
  have HV := Lib.hid hv
  have HL := Lib.hid hl
  have HN := Lib.hid hn
  have HM := Lib.hid hM
  clear hv hl hn hM
  go_enter Try.func27, Try.ntmps27
  go_wp2_with fail
  go_step3
  go_wp2_with (go_at_call 31; refine HB.out.mono ?_; rintro e w2 ⟨rfl, rfl⟩)
  go_step3
  go_wp2
  refine wp_loop (BkInv (.slice ao L.length ca) L M w2) (fun a _ => 60 - (intOf (a.tmps.getD 8 undef)).toNat) ?_ ?_
  · exact ⟨rfl, rfl, rfl, rfl, 0, 1, rfl, Nat.zero_le _, rfl, rfl, rfl, rfl, rfl⟩
  · rintro ⟨tm, df⟩ w1 ⟨rfl, hs, e0, e1, b, k1, hk1, hb, e8, e6, e7, hbk, rfl⟩
    simp only at hs e0 e1 e8 e6 e7
    obtain ⟨f, hf, hg⟩ := fr_open hs
    have g0 := hg _ _ e0
    have g1 := hg _ _ e1
    have g8 := hg _ _ e8
    have g6 := hg _ _ e6
    have g7 := hg _ _ e7
    simp only [List.range, List.range.loop, List.map] at hf
    rw [g0, g1, g8, g6, g7] at hf
    clear g0 g1 g8 g6 g7 hg hs e0 e1 e8 e6 e7 HB
    subst hf
    have HK1 := Lib.hid hk1
    by_cases hlt : b < kk M
    · have hb30 : k1 ≤ 30 := by have := kk_le M; omega
      have hkM : k1 ≤ kk M := by omega
      have ht : decide ((k1 : Int) ≤ M) = true := decide_eq_true (by unfold kk at hlt; omega)
      obtain ⟨k2, hk2⟩ : ∃ k2, k2 = k1 + 1 := ⟨_, rfl⟩
      obtain ⟨n1, n2⟩ := bk_head (L := L) HL.out hk2 hb30
      have NU := Lib.hid (fun i hi => bk_nums (i := i) HN.out HL.out hk2 hb30 hi)
      have LO := Lib.hid (show ∀ i, psum L k1 i ≤ sN L (b + 1) from fun i => by rw [← hk1]; exact psum_le L k1 i)
      have FIN2 := Lib.hid (fun h => FIN.out b hbk (.inr ⟨hb, h⟩))
      have NX := Lib.hid (show ∀ s0, sN L b = s0 → sN L k1 < s0 → bk L k1 = k1 from fun s0 h0 h => by subst h0; subst hk1; rw [bk, hbk, if_pos h])
      have HK2 := Lib.hid hk2
      have HB30 := Lib.hid hb30
      have HKM := Lib.hid hkM
      clear hlt hb hb30 hbk hk1 hk2 hkM
      generalize hs0 : sN L b = s0 at *
      have HS0 := Lib.hid hs0
      clear hs0
      generalize hp0 : psum L k1 0 = p0 at *
      have HP0 := Lib.hid hp0
      clear hp0
      by_cases hbr : s0 ≤ p0
      · have hd : decide (s0 ≤ p0) = true := decide_eq_true hbr
        have R := Lib.hid (FIN2.out (by have := LO.out 0; rw [HP0.out] at this; omega))
        clear hbr
        go_wp2_with fail
        try rw [Exit.noGoto_ret]
        go_ret2
        exact ⟨R.out, rfl⟩
      · have hd : decide (s0 ≤ p0) = false := decide_eq_false hbr
        have HBR := Lib.hid hbr
        clear hbr
        go_wp2_with fail
        rw [n2]
        refine wp_loop (BkIn (.slice ao L.length ca) L M b k1 s0 w1) (fun a _ => L.length - (intOf (a.tmps.getD 29 undef)).toNat) ?_ ?_
        · exact ⟨rfl, rfl, rfl, rfl, rfl, rfl, rfl, rfl, rfl, 0, Nat.zero_le _, rfl, by rw [HP0.out]; rfl, by rw [HP0.out]; have := HBR.out; omega, rfl⟩
        · clear n2 ht hd
          rintro ⟨tm, df⟩ w2 ⟨rfl, hs, e0, e1, e8, e6, e7, e27, e28, i, hi, e29, e9, hp, rfl⟩
          simp only at hs e0 e1 e8 e6 e7 e27 e28 e29 e9
          obtain ⟨f2, hf, hg⟩ := fr_open hs
          have g0 := hg _ _ e0
          have g1 := hg _ _ e1
          have g8 := hg _ _ e8
          have g6 := hg _ _ e6
          have g7 := hg _ _ e7
          have g27 := hg _ _ e27
          have g28 := hg _ _ e28
          have g29 := hg _ _ e29
          have g9 := hg _ _ e9
          simp only [List.range, List.range.loop, List.map] at hf
          rw [g0, g1, g8, g6, g7, g27, g28, g29, g9] at hf
          clear g0 g1 g8 g6 g7 g27 g28 g29 g9 hg hs e0 e1 e8 e6 e7 e27 e28 e29 e9
          subst hf
          have HP := Lib.hid hp
          clear hp
          by_cases hlt : i < L.length
          · obtain ⟨b1, o1, rfl, hc1⟩ := cell_kept HV.out i hlt
            have x1 := hc1 _ (Kept.refl _ _)
            have hdd : decide (i < L.length) = true := decide_eq_true hlt
            have hi1 : (i : Int) < (L.length : Int) := by omega
            obtain ⟨z, y, m1, m2, m3, m4⟩ := NU.out i hlt
            have HI := Lib.hid hlt
            have SZ := Lib.hid (size_any (L.getD i 0) (k1 : Int) w2)
            rw [m1] at SZ
            have M4 := Lib.hid m4
            have LOI := Lib.hid (LO.out (i + 1))
            clear hc1 hlt hi m1 m4
            generalize L.getD i 0 = x at *
            generalize hp1 : psum L k1 (i + 1) = p1 at *
            have HP1 := Lib.hid hp1
            clear hp1
            generalize psum L k1 i = pi at *
            by_cases hbr : s0 ≤ p1
            · have hd : decide (s0 ≤ p1) = true := decide_eq_true hbr
              have R := Lib.hid (FIN2.out (by have := LOI.out; omega))
              clear hbr
              go_wp2_with (go_at_call 39; refine SZ.out.mono ?_; rintro e w3 ⟨rfl, rfl⟩)
              try rw [Exit.noGoto_ret]
              go_ret2
              exact ⟨R.out, rfl⟩
            · have hd : decide (s0 ≤ p1) = false := decide_eq_false hbr
              have HBR := Lib.hid hbr
              clear hbr
              go_wp2_with (go_at_call 39; refine SZ.out.mono ?_; rintro e w3 ⟨rfl, rfl⟩)
              rw [M4.out, m3]
              exact ⟨⟨rfl, rfl, rfl, rfl, rfl, rfl, rfl, rfl, rfl, i + 1, HI.out, rfl, by rw [HP1.out]; rfl, by rw [HP1.out]; have := HBR.out; omega, rfl⟩, nearer HI.out rfl⟩
          · have hie : i = L.length := by omega
            subst hie
            have hdd : decide (L.length < L.length) = false := decide_eq_false hlt
            have hp := HP.out
            rw [psum_last] at hp ⊢
            have HNX := Lib.hid (NX.out _ rfl hp)
            clear hlt hi hp HP
            generalize hs1 : sN L k1 = s1 at *
            have HS1 := Lib.hid hs1
            clear hs1
            go_wp2_with fail
            rw [n1]
            exact ⟨⟨rfl, rfl, rfl, rfl, k1, k2, HK2.out, HKM.out, rfl, rfl, by rw [HS1.out]; rfl, HNX.out, rfl⟩, nearer60 HK2.out HB30.out⟩
    · have hbe : b = kk M := by omega
      have ht : decide ((k1 : Int) ≤ M) = false := decide_eq_false (by unfold kk at hbe; have := HM.out; omega)
      have R := Lib.hid (FIN.out b hbk (.inl hbe))
      clear hbe hlt hb hk1 hbk
      generalize sN L b = s0 at *
      go_wp2_with fail
      try rw [Exit.noGoto_ret]
      go_ret2
      exact ⟨R.out, rfl⟩

end Go.Proofs.Ytliggpidkdiinaa
