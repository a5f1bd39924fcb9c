/- The walk of the statement BitsSplit. -/
import Derived.Test.YtnchbclfjaghnaaAwake
import Derived.OpenShut
namespace Go.Proofs.Ytnchbclfjaghnaa
open Go.RowKit Bx

/-- No block in both. -/
def Disj (S T : Nat → Prop) : Prop := ∀ k, S k → ¬ T k
theorem Disj.symm {S T : Nat → Prop} (h : Disj S T) : Disj T S := fun k h1 h2 => h k h2 h1
theorem Wr.foot {base : Nat} {w : World} {p : Nat} {v : Value} {N c r : Nat} (h : Wr base w p v N c r) : ∀ k, Only p v k → base ≤ k ∧ k < w.heap.size := by
  rintro k (rfl | hk)
  · exact ⟨h.1, h.lt⟩
  · exact h.own hk
theorem Wr.apart {base : Nat} {w w' : World} {p : Nat} {v : Value} {N c r : Nat} {S : Nat → Prop} (h : Wr base w p v N c r) (hk : Kept S w w') (hd : Disj (Only p v) S) : Wr base w' p v N c r :=
  h.kept hk (hd p (.inl rfl)) (fun k hk => hd k (.inr hk))
theorem Rd.foot {base : Nat} {w : World} {q : Nat} {v : Value} {B : List Nat} {at_ fl : Nat} (h : Rd base w q v B at_ fl) : ∀ k, Only q v k → base ≤ k ∧ k < w.heap.size := by
  rintro k (rfl | hk)
  · exact ⟨h.1, h.lt⟩
  · exact h.own hk
theorem Rd.apart {base : Nat} {w w' : World} {q : Nat} {v : Value} {B : List Nat} {at_ fl : Nat} {S : Nat → Prop} (h : Rd base w q v B at_ fl) (hk : Kept S w w') (hd : Disj (Only q v) S) : Rd base w' q v B at_ fl :=
  h.kept hk (hd q (.inl rfl)) (fun k hk => hd k (.inr hk))
theorem disj_nix (S : Nat → Prop) : Disj S Nix := fun _ _ h => h
/-- What lay below stays apart from a thing that has grown. -/
theorem disj_grow {S : Nat → Prop} {p : Nat} {v v' : Value} {n : Nat} (hd : Disj S (Only p v)) (hS : ∀ k, S k → k < n) (hv : v'.ownBlock = v.ownBlock ∨ ∃ k, v'.ownBlock = some k ∧ n ≤ k) : Disj S (Only p v') := by
  rintro k hk (rfl | hk')
  · exact hd k hk (.inl rfl)
  · rcases hv with h | ⟨k', h, h2⟩
    · exact hd k hk (.inr (h ▸ hk'))
    · rw [h] at hk'
      have := hS k hk
      simp only [Option.some.injEq] at hk'
      omega
theorem disj_new {S T : Nat → Prop} {n : Nat} (hS : ∀ k, S k → k < n) (hT : ∀ k, T k → n ≤ k) : Disj S T := fun k h1 h2 => by have := hS k h1; have := hT k h2; omega

theorem Wr.beside {base : Nat} {w w' : World} {p : Nat} {v : Value} {N c r : Nat} {q : Nat} {u u' : Value} (h : Wr base w p v N c r) (hk : Kept (Only q u) w w') (hd : Disj (Only p v) (Only q u))
    (hv : u'.ownBlock = u.ownBlock ∨ ∃ k, u'.ownBlock = some k ∧ w.heap.size ≤ k) : Wr base w' p v N c r ∧ Disj (Only p v) (Only q u') := ⟨h.apart hk hd, disj_grow hd (fun k hk => (h.foot k hk).2) hv⟩
theorem Rd.beside {base : Nat} {w w' : World} {p : Nat} {v : Value} {B : List Nat} {at_ fl : Nat} {q : Nat} {u u' : Value} (h : Rd base w p v B at_ fl) (hk : Kept (Only q u) w w') (hd : Disj (Only p v) (Only q u))
    (hv : u'.ownBlock = u.ownBlock ∨ ∃ k, u'.ownBlock = some k ∧ w.heap.size ≤ k) : Rd base w' p v B at_ fl ∧ Disj (Only p v) (Only q u') := ⟨h.apart hk hd, disj_grow hd (fun k hk => (h.foot k hk).2) hv⟩
/-- The block of a slice. -/
def Own (v : Value) : Nat → Prop := fun k => v.ownBlock = some k
theorem owns_beside {base : Nat} {w w' : World} {e : TypeId} {size : Nat} {v : Value} {n : Nat} {xs : List Value} {q : Nat} {u u' : Value} (h : w.ownsRow base e size v n xs) (hk : Kept (Only q u) w w') (hd : Disj (Own v) (Only q u))
    (hv : u'.ownBlock = u.ownBlock ∨ ∃ k, u'.ownBlock = some k ∧ w.heap.size ≤ k) : w'.ownsRow base e size v n xs ∧ Disj (Own v) (Only q u') :=
  ⟨hk.owns h (fun k hk => hd k hk), disj_grow hd (fun _ hk => (h.lt _ hk).2) hv⟩
/-- A thing of the call's own that was turned: all that was there is kept. -/
theorem nix_own {base : Nat} {w1 w w' : World} {p : Nat} {v : Value} (hn : Kept Nix w1 w) (hk : Kept (Only p v) w w') (hf : ∀ k, Only p v k → base ≤ k) (hb : w1.heap.size ≤ base) : Kept Nix w1 w' :=
  nix_put hn hk (fun j hj => Nat.le_trans hb (hf j hj))
theorem only_nil (p k : Nat) : Only p (.slice none 0 0) k ↔ k = p := by simp [Only, Value.ownBlock]
/-- How a number that was put in two parts stands there. -/
theorem two_parts (M n a b : Nat) : (M * 2 ^ a + n / 2 ^ b % 2 ^ a) * 2 ^ b + n % 2 ^ b = M * 2 ^ (a + b) + n % 2 ^ (a + b) := by
  rw [Nat.add_mul, Nat.mul_assoc, ← Nat.pow_add, Nat.add_assoc, parts_join]
/-- Two rows of bytes of one number are one. -/
theorem pk_one {A B : List Nat} {N c r : Nat} (h1 : Pk A N c r) (h2 : Pk B N c r) : A = B :=
  be_inj A.length A B rfl (by have := h1.2.1; have := h2.2.1; omega) h1.1 h2.1 (by rw [h1.2.2.1, h2.2.2.1])
/-- What is taken from a writer's bytes: a part of its number. -/
theorem rval_pk {B : List Nat} {N c r at_ k : Nat} (h : Pk B N c r) (hk : at_ + k ≤ c) : rval B at_ 0 k = N / 2 ^ (c - (at_ + k)) % 2 ^ k ∧ rat B at_ 0 k = at_ + k ∧ rfail B at_ 0 k = 0 := by
  have hl := h.2.1
  have hs : short B at_ 0 k = false := by simp [short]; omega
  refine ⟨?_, by simp [rat, hs], by simp [rfail, show ¬ 8 * B.length < at_ + k by omega]⟩
  simp only [rval, hs, cond_false]
  rw [h.2.2.1, show 8 * B.length - (at_ + k) = r + (c - (at_ + k)) by omega, Nat.pow_add, ← Nat.div_div_eq_div_mul, Nat.mul_div_cancel _ (Nat.two_pow_pos r)]

set_option maxHeartbeats 1000000 in
theorem walk_BitsSplit (w : World) (a0 : Int) (w0 : (Lit.int .u64 a0).wf = true) (a1 : Int) (w1 : (Lit.int .u8 a1).wf = true) (a2 : Int) (w2 : (Lit.int .u8 a2).wf = true) (a3 : Int) (w3 : (Lit.int .u8 a3).wf = true) :
    Calls Try.prog 6 #[.int .u64 a0, .int .u8 a1, .int .u8 a2, .int .u8 a3] w fun e w' => e = .returned (.bool true) ∧ Kept Nix w w' := by
  have b0 := bounds_u64 w0
  have b1 := bounds_u8 w1
  have b2 := bounds_u8 w2
  have b3 := bounds_u8 w3
  obtain ⟨n, rfl⟩ := Int.eq_ofNat_of_zero_le b0.1
  obtain ⟨m1, rfl⟩ := Int.eq_ofNat_of_zero_le b1.1
  obtain ⟨m2, rfl⟩ := Int.eq_ofNat_of_zero_le b2.1
  obtain ⟨m3, rfl⟩ := Int.eq_ofNat_of_zero_le b3.1
  clear w0 w1 w2 w3
  have HA := Lib.hid (awake_any w)
  go_enter Try.func6, Try.ntmps6
  go_wp2_with fail
  refine HA.out.mono ?_
  rintro e w1 ⟨rfl, k1⟩
  have HN := Lib.hid (new_any w.heap.size w1 k1.size)
  go_wp2_with fail
  refine HN.out.mono ?_
  rintro e w2 ⟨p1, rfl, hp1, r1, k2⟩
  have s2 := k2.size
  have HN2 := Lib.hid (new_any w.heap.size w2 (Nat.le_trans k1.size k2.size))
  go_wp2_with fail
  refine HN2.out.mono ?_
  rintro e w3 ⟨p2, rfl, hp2, r2, k3⟩
  have s3 := k3.size
  have s1 := k1.size
  have d12 : Disj (Only p1 (.slice none 0 0)) (Only p2 (.slice none 0 0)) := by
    intro k h1 h2
    rw [only_nil] at h1 h2
    have := r1.lt
    omega
  have r1 := r1.apart k3 (disj_nix _)
  have k3 := nix_trans (nix_trans k1 k2) k3
  clear HA HN HN2 k1 k2
  obtain ⟨c, hc⟩ : ∃ c, m3 % 9 = c := ⟨_, rfl⟩
  obtain ⟨a, ha⟩ : ∃ a, m1 % 33 = a := ⟨_, rfl⟩
  obtain ⟨b, hb⟩ : ∃ b, m2 % 32 = b := ⟨_, rfl⟩
  have ec : wid ((m3 : Int) % 9) = c := by unfold wid; omega
  have ea : wid ((m1 : Int) % 33) = a := by unfold wid; omega
  have eb : wid ((m2 : Int) % 32) = b := by unfold wid; omega
  have eab : wid ((m1 : Int) % 33 + (m2 : Int) % 32) = a + b := by unfold wid; omega
  have hac : c ≤ 8 ∧ a ≤ 32 ∧ b ≤ 31 := by omega
  have H4 := put_any w.heap.size p1 (.slice none 0 0) 0 0 1 ((m3 : Int) % 9) w3 r1 (by omega) (by omega)
  rw [ec] at H4
  have H4 := Lib.hid H4
  have EC := Lib.hid ec
  have EA := Lib.hid ea
  have EB := Lib.hid eb
  have EAB := Lib.hid eab
  have HB2 := Lib.hid hb
  clear ec ea eb eab hc ha hb
  go_wp2_with fail
  refine H4.out.mono ?_
  rintro e w4 ⟨rfl, v4, r1', k4, g4⟩
  have s4 := k4.size
  obtain ⟨r2, d4⟩ := r2.beside k4 d12.symm g4
  have k4 := nix_own k3 k4 (fun k hk => (r1.foot k hk).1) (Nat.le_refl _)
  have r1 := r1'
  clear k3 r1' d12 g4 H4
  have H5 := put_any w.heap.size p2 (.slice none 0 0) 0 0 1 ((m3 : Int) % 9) w4 r2 (by omega) (by omega)
  rw [EC.out] at H5
  have H5 := Lib.hid H5
  go_wp2_with fail
  refine H5.out.mono ?_
  rintro e w5 ⟨rfl, v5, r2', k5, g5⟩
  have s5 := k5.size
  obtain ⟨r1, d5⟩ := r1.beside k5 d4.symm g5
  have k5 := nix_own k4 k5 (fun k hk => (r2.foot k hk).1) (Nat.le_refl _)
  have r2 := r2'
  clear k4 r2' d4 g5 H5
  generalize hM : 0 * 2 ^ c + 1 % 2 ^ c = M at r1 r2
  have r1 : Wr w.heap.size w5 p1 v4 M c ((8 - c % 8) % 8) := by simpa using r1
  have r2 : Wr w.heap.size w5 p2 v5 M c ((8 - c % 8) % 8) := by simpa using r2
  clear hM
  have H6 := put_any w.heap.size p1 v4 M c n ((m1 : Int) % 33 + (m2 : Int) % 32) w5 r1 (by omega) (by omega)
  rw [EAB.out] at H6
  have H6 := Lib.hid H6
  go_wp2_with fail
  refine H6.out.mono ?_
  rintro e w6 ⟨rfl, v6, r1', k6, g6⟩
  have s6 := k6.size
  obtain ⟨r2, d6⟩ := r2.beside k6 d5.symm g6
  have k6 := nix_own k5 k6 (fun k hk => (r1.foot k hk).1) (Nat.le_refl _)
  have r1 := r1'
  clear k5 r1' d5 g6 H6
  have H7 := put_any w.heap.size p2 v5 M c (n / 2 ^ b) ((m1 : Int) % 33) w6 r2 (by omega) (by omega)
  rw [EA.out, show ((n / 2 ^ b : Nat) : Int) = (n : Int) / 2 ^ (m2 % 32) by rw [← HB2.out, Int.natCast_ediv, Int.natCast_pow]; rfl] at H7
  have H7 := Lib.hid H7
  go_wp2_with fail
  refine H7.out.mono ?_
  rintro e w7 ⟨rfl, v7, r2', k7, g7⟩
  have s7 := k7.size
  obtain ⟨r1, d7⟩ := r1.beside k7 d6.symm g7
  have k7 := nix_own k6 k7 (fun k hk => (r2.foot k hk).1) (Nat.le_refl _)
  have r2 := r2'
  clear k6 r2' d6 g7 H7
  have H8 := put_any w.heap.size p2 v7 _ _ n ((m2 : Int) % 32) w7 r2 (by omega) (by omega)
  rw [EB.out, two_parts, Nat.add_assoc c a b] at H8
  have H8 := Lib.hid H8
  go_wp2_with fail
  refine H8.out.mono ?_
  rintro e w8 ⟨rfl, v8, r2', k8, g8⟩
  have s8 := k8.size
  obtain ⟨r1, d8⟩ := r1.beside k8 d7 g8
  have k8 := nix_own k7 k8 (fun k hk => (r2.foot k hk).1) (Nat.le_refl _)
  have r2 := r2'
  clear k7 r2' d7 g8 H8
  generalize hM2 : M * 2 ^ (a + b) + n % 2 ^ (a + b) = M2 at r1 r2
  have HM2 := Lib.hid hM2
  clear hM2
  generalize hr : (8 - (c + (a + b)) % 8) % 8 = r at r1 r2
  have hr8 : r ≤ 8 := by omega
  clear hr
  obtain ⟨B, hpk, hby⟩ := bytes_of_wr r1 (by omega) hr8 (by omega)
  have H9 := Lib.hid hby
  clear hby
  go_wp2_with fail
  refine H9.out.mono ?_
  rintro e w9 ⟨v9, rfl, o9, k9, g9⟩
  have s9 := k9.size
  have hBl : B.length < 1099511627776 := by have := hpk.2.1; omega
  have H10 := Lib.hid (open_any w.heap.size v9 B w9 (sl_of_owns o9) hpk.1 hBl (by omega))
  go_wp2_with fail
  refine H10.out.mono ?_
  rintro e w10 ⟨q1, u1, rfl, hq1, t1, k10, g10⟩
  have s10 := k10.size
  have k10 := nix_trans k9 k10
  have r1' := r1.apart k10 (disj_nix _)
  obtain ⟨B', hpk', hby⟩ := bytes_of_wr r1' (by omega) hr8 (by omega)
  obtain rfl := pk_one hpk hpk'
  have H11 := Lib.hid hby
  clear hby H9 H10 k9 o9 g9 r1'
  go_wp2_with fail
  refine H11.out.mono ?_
  rintro e w11 ⟨v11, rfl, o11, k11, g11⟩
  have s11 := k11.size
  have H12 := Lib.hid (open_any w.heap.size v11 B w11 (sl_of_owns o11) hpk.1 hBl (by omega))
  have t1 := t1.apart k11 (disj_nix _)
  go_wp2_with fail
  refine H12.out.mono ?_
  rintro e w12 ⟨q2, u2, rfl, hq2, t2, k12, g12⟩
  have s12 := k12.size
  have d1 : Disj (Only q1 u1) (One q2) := disj_new (fun k hk => (t1.foot k hk).2) (fun k hk => by rw [hk]; exact hq2)
  have d2 : Disj (Only q2 u2) (One q1) := by
    rintro k (rfl | h) (rfl : k = q1)
    · have := t1.lt; omega
    · have := g12 _ h; have := t1.lt; omega
  have t1 := t1.apart k12 (disj_nix _)
  have k12 := nix_trans (nix_trans k10 k11) k12
  clear k10 k11 H11 H12 o11 g11 g12
  have hl8 : 8 * B.length < 1099511627776 := by have := hpk.2.1; omega
  obtain ⟨x1, x2, x3⟩ := rval_pk (at_ := 0) (k := c) hpk (by omega)
  obtain ⟨y1, y2, y3⟩ := rval_pk (at_ := c) (k := a + b) hpk (by omega)
  obtain ⟨z1, z2, z3⟩ := rval_pk (at_ := c) (k := a) hpk (by omega)
  obtain ⟨u1', u2', u3'⟩ := rval_pk (at_ := c + a) (k := b) hpk (by omega)
  rw [Nat.zero_add] at x1 x2
  generalize hX : M2 / 2 ^ (c + (a + b) - (c + (a + b))) % 2 ^ (a + b) = X at y1
  generalize hY : M2 / 2 ^ (c + (a + b) - (c + a)) % 2 ^ a = Y at z1
  generalize hZ : M2 / 2 ^ (c + (a + b) - (c + a + b)) % 2 ^ b = Z at u1'
  rw [Nat.sub_self, Nat.pow_zero, Nat.div_one] at hX
  rw [show c + (a + b) - (c + a) = b by omega] at hY
  rw [show c + (a + b) - (c + a + b) = 0 by omega, Nat.pow_zero, Nat.div_one] at hZ
  have hXYZ : Y * 2 ^ b + Z = X := by rw [← hX, ← hY, ← hZ, parts_join]
  have hYs : Y < 2 ^ a := by rw [← hY]; exact Nat.mod_lt _ (Nat.two_pow_pos a)
  have hZs : Z < 2 ^ b := by rw [← hZ]; exact Nat.mod_lt _ (Nat.two_pow_pos b)
  have h63 : Y * 2 ^ b < 2 ^ 63 := Nat.lt_of_lt_of_le (Nat.mul_lt_mul_of_pos_right hYs (Nat.two_pow_pos b)) (by rw [← Nat.pow_add]; exact Nat.pow_le_pow_right (by decide) (by omega))
  have h31 : 2 ^ b ≤ 2 ^ 31 := Nat.pow_le_pow_right (by decide) (by omega)
  obtain ⟨YY, hYY⟩ : ∃ YY, Y * 2 ^ b = YY := ⟨_, rfl⟩
  have fY : (Y : Int) * 2 ^ (m2 % 32) = (YY : Int) := by rw [HB2.out, ← hYY, Int.natCast_mul, Int.natCast_pow]; rfl
  have fO : bits .or .u64 (YY : Int) (Z : Int) = (X : Int) := by
    rw [u64_or_nat YY Z (by omega) (by omega), or_add YY Z b (by rw [← hYY]; exact Nat.mul_mod_left _ _) hZs, ← hYY, hXYZ]
  have bYY : YY < 18446744073709551616 := by omega
  have FY := Lib.hid fY
  have FO := Lib.hid fO
  clear hX hY hZ hXYZ hYs hZs h63 h31 hYY fY fO
  have H13 := take_any w.heap.size q1 u1 B 0 0 ((m3 : Int) % 9) w12 t1 hl8
  rw [EC.out, x1, x2, x3] at H13
  have H14 := fun (wx : World) t => take_any w.heap.size q2 u2 B 0 0 ((m3 : Int) % 9) wx t hl8
  have H15 := fun (wx : World) t => take_any w.heap.size q1 u1 B c 0 ((m1 : Int) % 33 + (m2 : Int) % 32) wx t hl8
  have H16 := fun (wx : World) t => take_any w.heap.size q2 u2 B c 0 ((m1 : Int) % 33) wx t hl8
  have H17 := fun (wx : World) t => take_any w.heap.size q2 u2 B (c + a) 0 ((m2 : Int) % 32) wx t hl8
  rw [EC.out, x1, x2, x3] at H14
  rw [EAB.out, y1, y2, y3] at H15
  rw [EA.out, z1, z2, z3] at H16
  rw [EB.out, u1', u2', u3'] at H17
  have H13 := Lib.hid H13
  have H14 := Lib.hid H14
  have H15 := Lib.hid H15
  have H16 := Lib.hid H16
  have H17 := Lib.hid H17
  clear x1 x2 x3 y1 y2 y3 z1 z2 z3 u1' u2' u3'
  go_wp2_with fail
  refine H13.out.mono ?_
  rintro e w13 ⟨rfl, t1', k13⟩
  have t2 := t2.apart k13 d2
  have k13 : Kept Nix w8 w13 := nix_put k12 k13 (fun j hj => by rw [hj]; omega)
  clear k12 t1
  go_wp2_with fail
  refine (H14.out _ t2).mono ?_
  rintro e w14 ⟨rfl, t2', k14⟩
  have t1 := t1'.apart k14 d1
  have k14 : Kept Nix w8 w14 := nix_put k13 k14 (fun j hj => by rw [hj]; omega)
  clear k13 t2 t1'
  go_wp2_with fail
  refine (H15.out _ t1).mono ?_
  rintro e w15 ⟨rfl, t1', k15⟩
  have t2 := t2'.apart k15 d2
  have k15 : Kept Nix w8 w15 := nix_put k14 k15 (fun j hj => by rw [hj]; omega)
  clear k14 t1 t2' t1' d1 d2
  go_wp2_with fail
  refine (H16.out _ t2).mono ?_
  rintro e w16 ⟨rfl, t2', k16⟩
  have k16 : Kept Nix w8 w16 := nix_put k15 k16 (fun j hj => by rw [hj]; omega)
  clear k15 t2
  go_wp2_with fail
  refine (H17.out _ t2').mono ?_
  rintro e w17 ⟨rfl, t2, k17⟩
  have k17 : Kept Nix w8 w17 := nix_put k16 k17 (fun j hj => by rw [hj]; omega)
  clear k16 t2 t2' H13 H14 H15 H16 H17
  have r1 := r1.apart k17 (disj_nix _)
  have r2 := r2.apart k17 (disj_nix _)
  have s17 := k17.size
  have L1 := Lib.hid (len_any w.heap.size p1 v6 M2 (c + (a + b)) r w17 r1)
  have L2 := Lib.hid (len_any w.heap.size p2 v8 M2 (c + (a + b)) r w17 r2)
  obtain ⟨B1, q1k, c1⟩ := bytes_of_wr r1 (by omega) hr8 (by omega)
  obtain rfl := pk_one hpk q1k
  have C1 := Lib.hid c1
  clear c1
  go_wp2_with fail
  refine L1.out.mono ?_
  rintro e w' ⟨rfl, rfl⟩
  go_wp2_with fail
  refine L2.out.mono ?_
  rintro e w' ⟨rfl, rfl⟩
  go_wp2_with fail
  refine C1.out.mono ?_
  rintro e w18 ⟨v18, rfl, o18, k18, g18⟩
  have s18 := k18.size
  have r2 := r2.apart k18 (disj_nix _)
  obtain ⟨B2, q2k, c2⟩ := bytes_of_wr r2 (by omega) hr8 (by omega)
  obtain rfl := pk_one hpk q2k
  have C2 := Lib.hid c2
  clear c2
  go_wp2_with fail
  refine C2.out.mono ?_
  rintro e w19 ⟨v19, rfl, o19, k19, g19⟩
  have o18 := k19.owns o18 (fun _ _ h => h)
  have HS := Lib.hid (same_any v18 v19 B B w19 (sl_of_owns o18) (sl_of_owns o19) hBl)
  have k19 : Kept Nix w w19 := nix_trans (nix_trans (nix_trans k8 k17) k18) k19
  clear k8 k17 k18 L1 L2 C1 C2 q1k q2k o18 o19 r1 r2 g18 g19
  go_wp2_with fail
  refine HS.out.mono ?_
  rintro e w20 ⟨rfl, n20, rfl⟩
  have fY := FY.out
  have fO := FO.out
  clear FY FO
  go_wp2_with fail
  go_ret
  exact ⟨rfl, k19.drewN n20⟩
end Go.Proofs.Ytnchbclfjaghnaa
