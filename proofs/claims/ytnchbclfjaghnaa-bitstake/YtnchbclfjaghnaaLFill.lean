/- The walk of the statement BitsFill. -/
import Derived.Test.YtnchbclfjaghnaaLSplit
namespace Go.Proofs.Ytnchbclfjaghnaa
open Go.RowKit Bx

theorem pad_pad (c : Nat) : pad (c + pad c) = 0 := by unfold pad; omega
theorem pad_le (c : Nat) : pad c ≤ 7 := by unfold pad; omega
theorem pad_mod (c : Nat) : (c + pad c) % 8 = 0 := by unfold pad; omega

/-- Filling turns no byte. -/
theorem pk_fill {A B : List Nat} {N c : Nat} (h1 : Pk A N c (pad c)) (h2 : Pk B (N * 2 ^ pad c) (c + pad c) 0) : A = B :=
  be_inj A.length A B rfl (by have := h1.2.1; have := h2.2.1; omega) h1.1 h2.1 (by rw [h1.2.2.1, h2.2.2.1]; simp)

/-- One byte, of which P bits are behind the reader, filled. -/
theorem one_byte (x P : Nat) (hP : P ≤ 8) : rat [x] 0 0 P = P ∧ rfail [x] 0 0 P = 0 ∧
    ((P = 0 ∧ fat [x] P 0 = 0 ∧ ffail [x] P 0 = 0) ∨ (P = 8 ∧ fat [x] P 0 = 8 ∧ ffail [x] P 0 = 0) ∨
     (0 < P ∧ P < 8 ∧ x % 2 ^ (8 - P) = 0 ∧ fat [x] P 0 = 8 ∧ ffail [x] P 0 = 0) ∨ (0 < P ∧ P < 8 ∧ x % 2 ^ (8 - P) ≠ 0 ∧ fat [x] P 0 = P ∧ ffail [x] P 0 = 5)) := by
  have hs : short [x] 0 0 P = false := by simp [short]; omega
  refine ⟨by simp [rat, hs], by simp [rfail, show ¬ 8 < P by omega], ?_⟩
  have hb : be [x] = x := by simp [be]
  by_cases h0 : P = 0
  · subst h0
    exact .inl ⟨rfl, by simp [fat, rval, rat, short, pad, Nat.mod_one], by simp [ffail, rval, rfail, short, pad, Nat.mod_one]⟩
  · by_cases h8 : P = 8
    · subst h8
      exact .inr (.inl ⟨rfl, by simp [fat, rval, rat, short, pad, Nat.mod_one], by simp [ffail, rval, rfail, short, pad, Nat.mod_one]⟩)
    · have hp : pad P = 8 - P := by unfold pad; omega
      have hs1 : short [x] P 0 (8 - P) = false := by simp [short]; omega
      have hv : rval [x] P 0 (pad P) = x % 2 ^ (8 - P) := by
        simp only [rval, hp, hs1, cond_false, hb, List.length_singleton]
        rw [show 8 * 1 - (P + (8 - P)) = 0 by omega, Nat.pow_zero, Nat.div_one]
      have hr : rat [x] P 0 (pad P) = 8 := by simp only [rat, hp, hs1, cond_false]; omega
      have hf : rfail [x] P 0 (pad P) = 0 := by simp [rfail, hp, show ¬ 8 < P + (8 - P) by omega]
      by_cases hz : x % 2 ^ (8 - P) = 0
      · exact .inr (.inr (.inl ⟨by omega, by omega, hz, by simp [fat, hv, hz, hr], by simp [ffail, hv, hz, hf]⟩))
      · have hb : (x % 2 ^ (8 - P) != 0) = true := bne_iff_ne.2 hz
        exact .inr (.inr (.inr ⟨by omega, by omega, hz, by simp [fat, hv, hb], by simp [ffail, hv, hb]⟩))

theorem shl_byte (P : Nat) (h : P < 8) : ∃ D : Nat, D = 2 ^ (8 - P) ∧ wrap64 (2 ^ (8 - P)) = (D : Int) ∧ ¬ (D : Int) = 0 := by
  have h1 : 2 ^ (8 - P) ≤ 2 ^ 8 := Nat.pow_le_pow_right (by decide) (by omega)
  have h2 : 0 < 2 ^ (8 - P) := Nat.two_pow_pos _
  refine ⟨_, rfl, ?_, by omega⟩
  rw [show (2 : Int) ^ (8 - P) = ((2 ^ (8 - P) : Nat) : Int) by rw [Int.natCast_pow]; rfl]
  unfold wrap64
  omega

theorem rem_zero {x D : Nat} (h : x % D = 0) : ((x : Int) % (D : Int) == 0) = true := by
  rw [← Int.natCast_emod, h]; rfl
theorem rem_some {x D : Nat} (h : x % D ≠ 0) : ((x : Int) % (D : Int) == 0) = false := by
  rw [← Int.natCast_emod, beq_eq_false_iff_ne]
  exact fun e => h (Int.ofNat.inj e)

set_option maxRecDepth 100000 in
set_option maxHeartbeats 1000000 in
theorem walk_BitsFill (w : World) (a0 : Int) (w0 : (Lit.int .u64 a0).wf = true) (a1 : Int) (_w1 : (Lit.int .i64 a1).wf = true) (a2 : Int) (w2 : (Lit.int .u8 a2).wf = true) (a3 : Int) (w3 : (Lit.int .u8 a3).wf = true) :
    Calls Try.prog 8 #[.int .u64 a0, .int .i64 a1, .int .u8 a2, .int .u8 a3] w fun e w' => e = .returned (.bool true) ∧ Kept Nix w w' := by
  have b0 := bounds_u64 w0
  have b2 := bounds_u8 w2
  have b3 := bounds_u8 w3
  obtain ⟨n, rfl⟩ := Int.eq_ofNat_of_zero_le b0.1
  obtain ⟨x, rfl⟩ := Int.eq_ofNat_of_zero_le b2.1
  obtain ⟨m3, rfl⟩ := Int.eq_ofNat_of_zero_le b3.1
  clear w0 w2 w3
  have HA := Lib.hid (awake_any w)
  go_enter Try.func8, Try.ntmps8
  go_wp2_with fail
  refine HA.out.mono ?_
  rintro e w1 ⟨rfl, k1⟩
  have HN := Lib.hid (new_any w.heap.size w1 k1.size)
  go_wp2_with fail
  refine HN.out.mono ?_
  rintro e w2 ⟨p1, rfl, hp1, r1, k2⟩
  have s1 := k1.size
  have s2 := k2.size
  have hl2 : (w2.alloc (.cells #[.int .u8 (x : Int)] 5)).ownsRow 0 5 1 (.slice (some ⟨w2.heap.size, 0, none⟩) 1 1) 1 (u8s [x]) := World.ownsRow_lit w2 #[.int .u8 (x : Int)] 1 (Nat.zero_le _) (by simp [maxLen]) rfl
  have HO := Lib.hid (open_any w.heap.size _ [x] (w2.alloc (.cells #[.int .u8 (x : Int)] 5)) (sl_of_owns hl2) (by intro b hb; simp at hb; omega) (by simp) (by simp; omega))
  go_wp2_with fail
  refine HO.out.mono ?_
  rintro e w3 ⟨q, u, rfl, hq, t1, k3, g3⟩
  have s3 := k3.size
  simp only [World.size_alloc] at hq g3 s3
  have k3' : Kept Nix w2 w3 := nix_trans ((Kept.refl _ _).alloc _) k3
  have hd : Disj (Only q u) (Only p1 (.slice none 0 0)) := by
    intro k h1 h2
    rw [only_nil] at h2
    have := r1.lt
    rcases h1 with h1 | h1
    · omega
    · have := g3 _ h1; omega
  have r1 := r1.apart k3' (disj_nix _)
  have k3 := nix_trans (nix_trans k1 k2) k3'
  clear HA HN HO k1 k2 k3' hl2 g3
  have hc64 := wid_le a1
  have H4 := put_any w.heap.size p1 (.slice none 0 0) 0 0 n a1 w3 r1 (by omega) (by omega)
  rw [Nat.zero_mul, Nat.zero_add, Nat.zero_add] at H4
  generalize wid a1 = c at H4 hc64
  generalize n % 2 ^ c = N at H4
  have H4 := Lib.hid H4
  go_wp2_with fail
  refine H4.out.mono ?_
  rintro e w4 ⟨rfl, v4, r1', k4, g4⟩
  have s4 := k4.size
  obtain ⟨t1, hd⟩ := t1.beside k4 hd g4
  have k4 := nix_own k3 k4 (fun k hk => (r1.foot k hk).1) (Nat.le_refl _)
  have r1 : Wr w.heap.size w4 p1 v4 N c (pad c) := r1'
  clear k3 r1' g4 H4
  have hpc := pad_le c
  obtain ⟨B, hpk, hby⟩ := bytes_of_wr r1 (by omega) (by omega) (by omega)
  have H5 := Lib.hid hby
  clear hby
  go_wp2_with fail
  refine H5.out.mono ?_
  rintro e w5 ⟨v5, rfl, o5, k5, g5⟩
  have s5 := k5.size
  have hv5 : Disj (Own v5) (Only p1 v4) := (disj_new (n := w4.heap.size) (fun k hk => (r1.foot k hk).2) g5).symm
  have r1 := r1.apart k5 (disj_nix _)
  have t1 := t1.apart k5 (disj_nix _)
  have k5 := nix_trans k4 k5
  clear k4 H5
  have H6 := Lib.hid (len_any w.heap.size p1 v4 N c (pad c) w5 r1)
  go_wp2_with fail
  refine H6.out.mono ?_
  rintro e w' ⟨rfl, rfl⟩
  have H7 := Lib.hid (wfill_any w.heap.size p1 v4 N c w5 r1 (by omega) (by omega))
  go_wp2_with fail
  refine H7.out.mono ?_
  rintro e w7 ⟨rfl, v7, r1', k7, g7⟩
  have s7 := k7.size
  obtain ⟨t1, hd⟩ := t1.beside k7 hd g7
  obtain ⟨o5, hv5⟩ := owns_beside o5 k7 hv5 g7
  have k7 := nix_own k5 k7 (fun k hk => (r1.foot k hk).1) (Nat.le_refl _)
  have hpm := pad_mod c
  have hpp := pad_pad c
  generalize hM : c + pad c = M at *
  have r1 : Wr w.heap.size w7 p1 v7 (N * 2 ^ pad c) M (pad M) := r1'
  rw [hpp] at r1
  have HM := Lib.hid hM
  have HPP := Lib.hid hpp
  have HPM := Lib.hid hpm
  have hM1 : c ≤ M := by omega
  have hM2 : M ≤ c + 7 := by omega
  clear hM hpp hpm k5 H6 H7 g7 r1'
  have H8 := Lib.hid (len_any w.heap.size p1 v7 _ M 0 w7 r1)
  go_wp2_with fail
  refine H8.out.mono ?_
  rintro e w' ⟨rfl, rfl⟩
  have H9 := wfill_any w.heap.size p1 v7 _ M w7 (by have h := r1; rw [← HPP.out] at h; exact h) (by omega) (by omega)
  rw [HPP.out, Nat.pow_zero, Nat.mul_one, Nat.add_zero] at H9
  have H9 := Lib.hid H9
  go_wp2_with fail
  refine H9.out.mono ?_
  rintro e w9 ⟨rfl, v9, r1', k9, g9⟩
  have s9 := k9.size
  obtain ⟨t1, hd⟩ := t1.beside k9 hd g9
  obtain ⟨o5, hv5⟩ := owns_beside o5 k9 hv5 g9
  have k9 := nix_own k7 k9 (fun k hk => (r1.foot k hk).1) (Nat.le_refl _)
  have r1 : Wr w.heap.size w9 p1 v9 (N * 2 ^ pad c) M 0 := by have h : Wr w.heap.size w9 p1 v9 (N * 2 ^ pad c) M (pad M) := r1'; rwa [HPP.out] at h
  clear k7 H8 H9 r1' g9
  have H10 := Lib.hid (len_any w.heap.size p1 v9 _ M 0 w9 r1)
  obtain ⟨B', hpk', hby⟩ := bytes_of_wr r1 (by omega) (by omega) (by omega)
  have hBB : B = B' := pk_fill hpk (by rw [HM.out]; exact hpk')
  subst hBB
  have H11 := Lib.hid hby
  have hB8 : 8 * B.length = M := by have := hpk'.2.1; omega
  have hBl : B.length < 1099511627776 := by omega
  have HB8 := Lib.hid hB8
  clear hby hpk hpk' hB8
  obtain ⟨ao, cap, rfl, hcap, hmax⟩ := owns_shape o5
  have f1 : ((M : Int) != (M : Int)) = false := by simp
  have f2 : ((M : Int) % 8 != 0) = false := by have := HPM.out; simp; omega
  have f3 : decide (M < c) = false := by simp; omega
  have f4 : decide ((7 : Int) < (M : Int) - (c : Int)) = false := by simp; omega
  have f5 : (8 * (B.length : Int) != (M : Int)) = false := by have := HB8.out; simp; omega
  go_wp2_with (first | (go_at_call 14; refine H10.out.mono ?_; rintro e w' ⟨rfl, rfl⟩))
  refine H11.out.mono ?_
  rintro e w11 ⟨v11, rfl, o11, k11, g11⟩
  have t1 := t1.apart k11 (disj_nix _)
  have o5 := k11.owns o5 (fun _ _ h => h)
  have HS := Lib.hid (same_any (.slice ao B.length cap) v11 B B w11 (sl_of_owns o5) (sl_of_owns o11) hBl)
  have k11 := nix_trans k9 k11
  clear k9 H10 H11 o5 o11 hv5 hd r1
  obtain ⟨P, hP⟩ : ∃ P, m3 % 9 = P := ⟨_, rfl⟩
  have hP8 : P ≤ 8 := by omega
  have eP : wid ((m3 : Int) % 9) = P := by unfold wid; omega
  have fP : (m3 : Int) % 9 = (P : Int) := by omega
  obtain ⟨x2, x3, hcase⟩ := one_byte x P hP8
  have H12 := fun (wx : World) t => take_any w.heap.size q u [x] 0 0 (P : Int) wx t (by simp)
  rw [show wid (P : Int) = P by unfold wid; omega, x2, x3] at H12
  have H13 := fun (wx : World) t => rfill_any w.heap.size q u [x] P 0 wx t (by simp)
  have H12 := Lib.hid H12
  have H13 := Lib.hid H13
  have HCASE := Lib.hid hcase
  clear hP eP x2 x3 hcase
  go_wp2_with fail
  refine HS.out.mono ?_
  rintro e w12 ⟨rfl, n12, rfl⟩
  go_wp2_with fail
  refine (H12.out (w11.drewN n12) t1).mono ?_
  rintro e w13 ⟨rfl, t2, k13⟩
  have k13 : Kept Nix w w13 := nix_put (k11.drewN n12) k13 (fun j hj => by rw [hj]; omega)
  go_wp2_with fail
  refine (H13.out _ t2).mono ?_
  rintro e w14 ⟨rfl, t3, k14⟩
  have k14 : Kept Nix w w14 := nix_put k13 k14 (fun j hj => by rw [hj]; omega)
  clear k11 k13 H12 H13 HS t1 t2 f1 f2 f3 f4 f5
  have hx64 : (x : Int) < 256 := by omega
  rcases HCASE.out with ⟨rfl, e1, e2⟩ | ⟨rfl, e1, e2⟩ | ⟨h1, h2, h3, e1, e2⟩ | ⟨h1, h2, h3, e1, e2⟩
  · rw [e1, e2] at t3
    have H15 := Lib.hid (fail_any w.heap.size q u [x] 0 0 w14 t3)
    have H16 := Lib.hid (at_any w.heap.size q u [x] 0 0 w14 t3)
    clear e1 e2 HCASE t3
    go_wp2_with (first | (go_at_call 26; refine H15.out.mono ?_; rintro e w' ⟨rfl, rfl⟩) | (go_at_call 25; refine H16.out.mono ?_; rintro e w' ⟨rfl, rfl⟩))
    go_ret
    exact ⟨rfl, k14⟩
  · rw [e1, e2] at t3
    have H15 := Lib.hid (fail_any w.heap.size q u [x] 8 0 w14 t3)
    have H16 := Lib.hid (at_any w.heap.size q u [x] 8 0 w14 t3)
    clear e1 e2 HCASE t3
    go_wp2_with (first | (go_at_call 26; refine H15.out.mono ?_; rintro e w' ⟨rfl, rfl⟩) | (go_at_call 25; refine H16.out.mono ?_; rintro e w' ⟨rfl, rfl⟩))
    go_ret
    exact ⟨rfl, k14⟩
  · rw [e1, e2] at t3
    have H15 := Lib.hid (fail_any w.heap.size q u [x] 8 0 w14 t3)
    have H16 := Lib.hid (at_any w.heap.size q u [x] 8 0 w14 t3)
    clear e1 e2 HCASE t3
    have g1 : ((P : Int) == 0) = false := by simp; omega
    have g2 : ((P : Int) == 8) = false := by simp; omega
    obtain ⟨D, hD, g3, g4⟩ := shl_byte P h2
    have g5 : ((x : Int) % (D : Int) == 0) = true := rem_zero (hD ▸ h3)
    clear hD h3
    go_wp2_with (first | (go_at_call 26; refine H15.out.mono ?_; rintro e w' ⟨rfl, rfl⟩) | (go_at_call 25; refine H16.out.mono ?_; rintro e w' ⟨rfl, rfl⟩))
    go_ret
    exact ⟨rfl, k14⟩
  · rw [e1, e2] at t3
    have H15 := Lib.hid (fail_any w.heap.size q u [x] P 5 w14 t3)
    have H16 := Lib.hid (at_any w.heap.size q u [x] P 5 w14 t3)
    clear e1 e2 HCASE t3
    have g1 : ((P : Int) == 0) = false := by simp; omega
    have g2 : ((P : Int) == 8) = false := by simp; omega
    obtain ⟨D, hD, g3, g4⟩ := shl_byte P h2
    have g5 : ((x : Int) % (D : Int) == 0) = false := rem_some (hD ▸ h3)
    clear hD h3
    go_wp2_with (first | (go_at_call 26; refine H15.out.mono ?_; rintro e w' ⟨rfl, rfl⟩) | (go_at_call 25; refine H16.out.mono ?_; rintro e w' ⟨rfl, rfl⟩))
    go_ret
    exact ⟨rfl, k14⟩
end Go.Proofs.Ytnchbclfjaghnaa
