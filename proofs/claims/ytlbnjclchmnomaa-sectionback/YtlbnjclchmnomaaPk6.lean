/- Writers and readers of bits kept apart from other things; what is taken from a writer's bytes; bits as a number. Contracts of rice.Put and rice.Take. -/
import Derived.Test.YtlbnjclchmnomaaPk5
import Derived.Test.YtlbnjclchmnomaaPk3

namespace Go.Proofs.Ytlbnjclchmnomaa
open Go.RowKit Bx

/-- A call of the writer's, from the writer's state alone. -/
theorem bytes_of_wr {base p : Nat} {v : Value} {N c r : Nat} {w : World} (h : Wr base w p v N c r) (hc : c < 1099511627776) (hr : r ≤ 8) (hb : base ≤ w.heap.size) :
    ∃ B, Pk B N c r ∧ Calls Try.prog 13 #[.pointer (some ⟨p, 0, none⟩)] w (ClonePost base w B) := by
  obtain ⟨_, hp, _, B, ho, hpk⟩ := h
  exact ⟨B, hpk, bytes_any base p v N c r B w hp ho hpk hc hr hb⟩

theorem Wr.foot {base : Nat} {w : World} {p : Nat} {v : Value} {N c r : Nat} (h : Wr base w p v N c r) : ∀ k, Only p v k → base ≤ k ∧ k < w.heap.size := by
  rintro k (rfl | hk)
  · exact ⟨h.1, h.lt⟩
  · exact h.own hk

theorem Wr.apart {base : Nat} {w w' : World} {p : Nat} {v : Value} {N c r : Nat} {S : Nat → Prop} (h : Wr base w p v N c r) (hk : Kept S w w') (hd : Disj (Only p v) S) : Wr base w' p v N c r :=
  h.kept hk (hd p (.inl rfl)) (fun k hk => hd k (.inr hk))

theorem Rd.foot {base : Nat} {w : World} {q : Nat} {v : Value} {B : List Nat} {at_ fl : Nat} (h : Rd base w q v B at_ fl) : ∀ k, Only q v k → base ≤ k ∧ k < w.heap.size := by
  rintro k (rfl | hk)
  · exact ⟨h.1, h.lt⟩
  · exact h.own hk

theorem Rd.apart {base : Nat} {w w' : World} {q : Nat} {v : Value} {B : List Nat} {at_ fl : Nat} {S : Nat → Prop} (h : Rd base w q v B at_ fl) (hk : Kept S w w') (hd : Disj (Only q v) S) : Rd base w' q v B at_ fl :=
  h.kept hk (hd q (.inl rfl)) (fun k hk => hd k (.inr hk))

theorem Wr.beside {base : Nat} {w w' : World} {p : Nat} {v : Value} {N c r : Nat} {q : Nat} {u u' : Value} (h : Wr base w p v N c r) (hk : Kept (Only q u) w w') (hd : Disj (Only p v) (Only q u))
    (hv : u'.ownBlock = u.ownBlock ∨ ∃ k, u'.ownBlock = some k ∧ w.heap.size ≤ k) : Wr base w' p v N c r ∧ Disj (Only p v) (Only q u') := ⟨h.apart hk hd, disj_grow hd (fun k hk => (h.foot k hk).2) hv⟩

theorem Rd.beside {base : Nat} {w w' : World} {p : Nat} {v : Value} {B : List Nat} {at_ fl : Nat} {q : Nat} {u u' : Value} (h : Rd base w p v B at_ fl) (hk : Kept (Only q u) w w') (hd : Disj (Only p v) (Only q u))
    (hv : u'.ownBlock = u.ownBlock ∨ ∃ k, u'.ownBlock = some k ∧ w.heap.size ≤ k) : Rd base w' p v B at_ fl ∧ Disj (Only p v) (Only q u') := ⟨h.apart hk hd, disj_grow hd (fun k hk => (h.foot k hk).2) hv⟩

/-- How a number that was put in two parts stands there. -/
theorem two_parts (M n a b : Nat) : (M * 2 ^ a + n / 2 ^ b % 2 ^ a) * 2 ^ b + n % 2 ^ b = M * 2 ^ (a + b) + n % 2 ^ (a + b) := by
  rw [Nat.add_mul, Nat.mul_assoc, ← Nat.pow_add, Nat.add_assoc, parts_join]

/-- Two rows of bytes of one number are one. -/
theorem pk_one {A B : List Nat} {N c r : Nat} (h1 : Pk A N c r) (h2 : Pk B N c r) : A = B :=
  be_inj A.length A B rfl (by have := h1.2.1; have := h2.2.1; omega) h1.1 h2.1 (by rw [h1.2.2.1, h2.2.2.1])

/-- What is taken from a writer's bytes: a part of its number. -/
theorem rval_pk {B : List Nat} {N c r at_ k : Nat} (h : Pk B N c r) (hk : at_ + k ≤ c) : rval B at_ 0 k = N / 2 ^ (c - (at_ + k)) % 2 ^ k ∧ rat B at_ 0 k = at_ + k ∧ rfail B at_ 0 k = 0 := by
  have hl := h.2.1
  have hs : short B at_ 0 k = false := by simp [short]; omega
  refine ⟨?_, by simp [rat, hs], by simp [rfail, show ¬ 8 * B.length < at_ + k by omega]⟩
  simp only [rval, hs, cond_false]
  rw [h.2.2.1, show 8 * B.length - (at_ + k) = r + (c - (at_ + k)) by omega, Nat.pow_add, ← Nat.div_div_eq_div_mul, Nat.mul_div_cancel _ (Nat.two_pow_pos r)]

theorem pad_pad (c : Nat) : pad (c + pad c) = 0 := by unfold pad; omega

theorem pad_le (c : Nat) : pad c ≤ 7 := by unfold pad; omega

theorem pad_mod (c : Nat) : (c + pad c) % 8 = 0 := by unfold pad; omega

/-- Filling turns no byte. -/
theorem pk_fill {A B : List Nat} {N c : Nat} (h1 : Pk A N c (pad c)) (h2 : Pk B (N * 2 ^ pad c) (c + pad c) 0) : A = B :=
  be_inj A.length A B rfl (by have := h1.2.1; have := h2.2.1; omega) h1.1 h2.1 (by rw [h1.2.2.1, h2.2.2.1]; simp)

/-- The three ways of a taking. -/
theorem take_ways (B : List Nat) (at_ fl k : Nat) (_hle : at_ ≤ 8 * B.length) :
    (fl ≠ 0 ∧ rval B at_ fl k = 0 ∧ rat B at_ fl k = at_ ∧ rfail B at_ fl k = fl) ∨
    (fl = 0 ∧ rval B at_ fl k = 0 ∧ rat B at_ fl k = at_ ∧ rfail B at_ fl k = 2) ∨
    (fl = 0 ∧ at_ ≤ rat B at_ fl k ∧ rat B at_ fl k ≤ 8 * B.length ∧ rfail B at_ fl k = 0) := by
  by_cases h : fl = 0
  · subst h
    by_cases hs : 8 * B.length < at_ + k
    · exact .inr (.inl ⟨rfl, by simp [rval, short, hs], by simp [rat, short, hs], by simp [rfail, hs]⟩)
    · exact .inr (.inr ⟨rfl, by simp [rat, short, hs], by simp [rat, short, hs]; omega, by simp [rfail, hs]⟩)
  · exact .inl ⟨h, by simp [rval, short, h], by simp [rat, short, h], by simp [rfail, h]⟩

/-- A writer's bytes, all its bits taken: what is left is filled. -/
theorem fill_end {B : List Nat} {N C : Nat} (h : Pk B N C (pad C)) : fat B C 0 = 8 * B.length ∧ ffail B C 0 = 0 := by
  have hl := h.2.1
  have hs : short B C 0 (pad C) = false := by simp [short]; omega
  have hv : rval B C 0 (pad C) = 0 := by
    simp only [rval, hs, cond_false]
    rw [show 8 * B.length - (C + pad C) = 0 by omega, Nat.pow_zero, Nat.div_one, h.2.2.1]
    exact Nat.mul_mod_left _ _
  refine ⟨?_, ?_⟩
  · simp only [fat, hv, rat, hs, cond_false]
    exact hl.symm
  · simp [ffail, hv, rfail, show ¬ 8 * B.length < C + pad C by omega]

/-- A part of a writer's bytes is a part of its bits. -/
theorem part_pk {B : List Nat} {l : List Bool} {r : Nat} (h : Pk B (num l) l.length r) (a k : Nat) (hk : a + k ≤ l.length) : be B / 2 ^ (8 * B.length - (a + k)) % 2 ^ k = num ((l.drop a).take k) := by
  have hl := h.2.1
  rw [h.2.2.1, show 8 * B.length - (a + k) = r + (l.length - (a + k)) by omega, Nat.pow_add, ← Nat.div_div_eq_div_mul, Nat.mul_div_cancel _ (Nat.two_pow_pos r), num_part l a k hk]

end Go.Proofs.Ytlbnjclchmnomaa

namespace Go.Proofs.Ytlbnjclchmnomaa
open Go.RowKit Bx

/-- Two puts, one behind the other. -/
theorem PutPost.trans {base p : Nat} {w w1 w2 : World} {v v1 : Value} {N2 c2 : Nat} (hk : Kept (Only p v) w w1) (hv : v1.ownBlock = v.ownBlock ∨ ∃ k, v1.ownBlock = some k ∧ w.heap.size ≤ k) (h : PutPost base w1 p v1 N2 c2 w2) : PutPost base w p v N2 c2 w2 := by
  obtain ⟨v2, hw2, hk2, hv2⟩ := h
  refine ⟨v2, hw2, hk.trans hk2 (fun _ h => h) (fun j hj e => ?_), ?_⟩
  · rcases e with e | e
    · exact .inl e
    · rcases hv with h | ⟨k, h, h2⟩
      · exact .inr (h ▸ e)
      · rw [h] at e; simp only [Option.some.injEq] at e; omega
  · rcases hv2 with h | ⟨k, h, h2⟩
    · rw [h]; exact hv
    · exact .inr ⟨k, h, Nat.le_trans hk.size h2⟩

/-- What holds at the label: z zeros are still to be put. -/
def RicePutInv (base : Nat) (w : World) (p : Nat) (v : Value) (N c H : Nat) (n : Int) (k : Nat) (a : Act) (w' : World) : Prop :=
  a.defers = [] ∧ a.tmps.size = 34 ∧ a.tmps[0]? = some (.pointer (some ⟨p, 0, none⟩)) ∧ a.tmps[1]? = some (.int .i64 n) ∧ a.tmps[2]? = some (.int .i64 (k : Int)) ∧
  ∃ z, z ≤ H ∧ a.tmps[7]? = some (.int .i64 ((z : Nat) : Int)) ∧ PutPost base w p v (N * 2 ^ (H - z)) (c + (H - z)) w'

def ricePutMeasure (a : Act) : Nat := (intOf (a.tmps.getD 7 undef)).toNat

noncomputable def ricePutRest : Code := behindLabel (Try.f49.body.getD .skip) 0

/-- The number that a writer holds behind a rice number. -/
def rlay (N : Nat) (n k : Int) : Nat := (N * 2 ^ (fd n / 2 ^ kk k + 1) + 1) * 2 ^ kk k + fd n % 2 ^ kk k
def rlen (n k : Int) : Nat := fd n / 2 ^ kk k + 1 + kk k

set_option maxHeartbeats 400000 in
theorem ricePut_pass (base p : Nat) (v : Value) (N c : Nat) (n k : Int) (w : World) (hn : nr n = true) (hH : fd n / 2 ^ kk k ≤ 65535) (hc : c < 1099511000000) (hb : base ≤ w.heap.size)
    (R : Ending → World → Prop) (hR : ∀ w', PutPost base w p v (rlay N n k) (c + rlen n k) w' → R (.returned (.int .i64 0)) w')
    (a : Act) (w' : World) (hi : RicePutInv base w p v N c (fd n / 2 ^ kk k) n (kk k) a w') :
    ricePutRest.wp Try.prog (Exit.jump 0 (fun a' w'' => RicePutInv base w p v N c (fd n / 2 ^ kk k) n (kk k) a' w'' ∧ ricePutMeasure a' < ricePutMeasure a) (bodyPost Try.prog Try.f49 R)) a w' := by
  have HRet := Lib.hid hR
  clear hR
  obtain ⟨tm, df⟩ := a
  obtain ⟨rfl, hs, h0, h1, h2, z, hle, h7, v', hw', hkp, hv'⟩ := hi
  simp only at hs h0 h1 h2 h7
  obtain ⟨f, hf, hg⟩ := fr_open hs
  have e0 := hg _ _ h0
  have e1 := hg _ _ h1
  have e2 := hg _ _ h2
  have e7 := hg _ _ h7
  simp only [List.range, List.range.loop, List.map] at hf
  rw [e0, e1, e2, e7] at hf
  clear e0 e1 e2 e7 hg hs h0 h1 h2 h7
  subst hf
  have hkl := kk_le k
  have hnb := near_bounds hn
  have hsz := hkp.size
  have HF := Lib.hid (fold_any n)
  unfold rlay rlen at HRet
  have hfl := fd_near hn
  generalize fd n = u at *
  generalize kk k = K at *
  generalize hHH : u / 2 ^ K = H at *
  have HHH := Lib.hid hHH
  clear hHH hn
  conv => arg 2; whnf
  by_cases hz : 64 < z
  · have HP := put_any base p v' _ _ 0 64 w' hw' (by omega) (by omega)
    rw [show wid 64 = 64 by decide, Nat.zero_mod, Nat.add_zero, Nat.mul_assoc, ← Nat.pow_add, Nat.add_assoc] at HP
    have HP := Lib.hid HP
    clear hw' HRet HF
    go_wp2_with fail
    refine HP.out.mono ?_
    rintro e w2 ⟨rfl, hp2⟩
    have HP2 := Lib.hid (PutPost.trans hkp hv' hp2)
    clear hp2 HP
    go_wp2
    refine wp_goto ⟨rfl, ⟨rfl, rfl, rfl, rfl, rfl, z - 64, by omega, ?_, ?_⟩, ?_⟩
    · exact congrArg (fun x => some (Value.int .i64 x)) (by omega)
    · rw [show H - (z - 64) = H - z + 64 by omega]
      exact HP2.out
    · simp [ricePutMeasure, intOf]
      omega
  · have HP := put_any base p v' _ _ 0 (z : Int) w' hw' (by omega) (by omega)
    rw [show wid (z : Int) = z by unfold wid; omega, Nat.zero_mod, Nat.add_zero, Nat.mul_assoc, ← Nat.pow_add, Nat.add_assoc, show H - z + z = H by omega] at HP
    have HP := Lib.hid HP
    clear hw'
    go_wp2_with fail
    refine HP.out.mono ?_
    rintro e w2 ⟨rfl, hp2⟩
    obtain ⟨v2, hw2, hk2, hv2⟩ := PutPost.trans hkp hv' hp2
    have s2 := hk2.size
    have HP3 := put_any base p v2 _ _ 1 1 w2 hw2 (by omega) (by omega)
    rw [show wid 1 = 1 by decide, show 1 % 2 ^ 1 = 1 by decide, Nat.mul_assoc, ← Nat.pow_add, Nat.add_assoc] at HP3
    have HP3 := Lib.hid HP3
    clear hp2 HP hw2 hkp hv'
    go_wp2_with fail
    refine HP3.out.mono ?_
    rintro e w3 ⟨rfl, hp3⟩
    obtain ⟨v3, hw3, hk3, hv3⟩ := PutPost.trans hk2 hv2 hp3
    have s3 := hk3.size
    have HP4 := put_any base p v3 _ _ u (K : Int) w3 hw3 (by omega) (by omega)
    rw [show wid (K : Int) = K by unfold wid; omega, Nat.add_assoc] at HP4
    have HP4 := Lib.hid HP4
    clear hp3 HP3 hw3 hk2 hv2
    go_wp2_with (go_at_call 44; refine (HF.out w3 (by omega) (by omega)).mono ?_; rintro e w' ⟨rfl, rfl⟩)
    refine HP4.out.mono ?_
    rintro e w4 ⟨rfl, hp4⟩
    go_wp2
    exact HRet.out _ (PutPost.trans hk3 hv3 hp4)

/-- What Put tells, and what it leaves. -/
def RicePutPost (base : Nat) (w : World) (p : Nat) (v : Value) (N c : Nat) (n k : Int) (e : Ending) (w' : World) : Prop :=
  (nr n = false ∧ e = .returned (.int .i64 6) ∧ w = w') ∨ (nr n = true ∧ 65535 < fd n / 2 ^ kk k ∧ e = .returned (.int .i64 7) ∧ w = w') ∨
  (nr n = true ∧ fd n / 2 ^ kk k ≤ 65535 ∧ e = .returned (.int .i64 0) ∧ PutPost base w p v (rlay N n k) (c + rlen n k) w')

set_option maxHeartbeats 400000 in
theorem ricePut_any (base p : Nat) (v : Value) (N c : Nat) (n k : Int) (w : World) (hw : Wr base w p v N c (pad c)) (hc : c < 1099511000000) (hb : base ≤ w.heap.size) :
    Calls Try.prog 49 #[.pointer (some ⟨p, 0, none⟩), .int .i64 n, .int .i64 k] w (RicePutPost base w p v N c n k) := by
  have HN := near_any n w
  by_cases hn : nr n = true
  · rw [hn] at HN
    have HN := Lib.hid HN
    have hkl := kk_le k
    have HK := Lib.hid (rheld_any k w)
    have HH := Lib.hid (higher_any n (kk k) w hn hkl)
    have hhl := high_lt hn (kk k)
    by_cases hH : fd n / 2 ^ kk k ≤ 65535
    · have hpass := Lib.hid (ricePut_pass base p v N c n k w hn hH hc hb (RicePutPost base w p v N c n k) (fun w' h => .inr (.inr ⟨hn, hH, rfl, h⟩)))
      have HW := Lib.hid hw
      have HN2 := Lib.hid hn
      generalize hu : fd n / 2 ^ kk k = H at *
      generalize kk k = K at *
      have ht : ¬ (65535 : Int) < (H : Int) := by omega
      clear hw hn hu
      go_enter Try.func49, Try.ntmps49
      go_wp2
      refine wp_scope_jumps 0 (RicePutInv base w p v N c H n K) (fun a' _ => ricePutMeasure a') rfl ?_ ?_
      · go_wp2_with (first | (go_at_call 55; refine HN.out.mono ?_; rintro e w' ⟨rfl, rfl⟩) | (go_at_call 63; refine HK.out.mono ?_; rintro e w' ⟨rfl, rfl⟩) | (go_at_call 64; refine HH.out.mono ?_; rintro e w' ⟨rfl, rfl⟩))
        go_step3
        rename_i K hK
        refine hK _ _ ?_
        refine wp_mono (hpass.out _ _ ⟨rfl, rfl, rfl, rfl, rfl, H, Nat.le_refl _, rfl, v, ?_, Kept.refl _ _, .inl rfl⟩) ?_
        · simpa [pad] using HW.out
        · intro e a' w' h
          cases e with
          | goto l => exact ⟨h.1, h.2.1⟩
          | normal => exact h
          | exit id => exact h
          | ret => exact h
          | panic ch => exact h
          | outgrown => exact h
      · intro a' w' hi
        refine wp_seq (wp_skip ?_)
        exact hpass.out a' w' hi
    · have HH2 := Lib.hid hn
      have ht2 : 65535 < fd n / 2 ^ kk k := by omega
      have fin : RicePutPost base w p v N c n k (.returned (.int .i64 7)) w := .inr (.inl ⟨hn, ht2, rfl, rfl⟩)
      have FIN := Lib.hid fin
      generalize hu : fd n / 2 ^ kk k = H at *
      generalize kk k = K at *
      have ht : (65535 : Int) < (H : Int) := by omega
      clear hw hn hu fin
      go_enter Try.func49, Try.ntmps49
      go_wp2
      go_step3
      go_wp2_with (first | (go_at_call 55; refine HN.out.mono ?_; rintro e w' ⟨rfl, rfl⟩) | (go_at_call 63; refine HK.out.mono ?_; rintro e w' ⟨rfl, rfl⟩) | (go_at_call 64; refine HH.out.mono ?_; rintro e w' ⟨rfl, rfl⟩))
      rw [Exit.noGoto_ret]
      go_ret
      exact FIN.out
  · have hn' : nr n = false := by simpa using hn
    rw [hn'] at HN
    have HN := Lib.hid HN
    have fin : RicePutPost base w p v N c n k (.returned (.int .i64 6)) w := .inl ⟨hn', rfl, rfl⟩
    have FIN := Lib.hid fin
    clear hw hn hn' fin
    go_enter Try.func49, Try.ntmps49
    go_wp2
    go_step3
    go_wp2_with (go_at_call 55; refine HN.out.mono ?_; rintro e w' ⟨rfl, rfl⟩)
    rw [Exit.noGoto_ret]
    go_ret
    exact FIN.out
end Go.Proofs.Ytlbnjclchmnomaa
