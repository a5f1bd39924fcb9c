/- A reader of bits in memory; the contract of (*bits.Reader).Take. Contracts of the remaining functions of package bits, and of the reference's Same. -/
import Derived.Test.YtlbnjclchmnomaaPk3
import Derived.Test.YtlbnjclchmnomaaPk2
import Derived.WalkMore
import Derived.ScopeJumps
import Derived.Deep.QuietTactic
import Derived.BigQuiet
import Derived.Outline
import Derived.Deep.Cut
import Derived.Test.YtlbnjclchmnomaaPk4

namespace Go.Proofs.Ytlbnjclchmnomaa
open Go.RowKit Bx

/-- At block q lies a reader of the bytes B, whose slice is v, behind 'at' bits; fl: how it failed. -/
def Rd (base : Nat) (w : World) (q : Nat) (v : Value) (B : List Nat) (at_ fl : Nat) : Prop :=
  base ≤ q ∧ w.heap[q]? = some (.cells #[v, .int .i64 at_, .int .i64 fl] 70 (0, 0)) ∧ v.ownBlock ≠ some q ∧
  w.ownsRow base 5 1 v B.length (u8s B) ∧ (∀ b ∈ B, b < 256) ∧ at_ ≤ 8 * B.length

theorem Rd.kept {base : Nat} {w w' : World} {q : Nat} {v : Value} {B : List Nat} {at_ fl : Nat} {S : Nat → Prop} (h : Rd base w q v B at_ fl) (hk : Kept S w w') (h1 : ¬ S q) (h2 : ∀ k, v.ownBlock = some k → ¬ S k) : Rd base w' q v B at_ fl := by
  obtain ⟨hb, hp, hne, ho, hB, ha⟩ := h
  exact ⟨hb, hk.heap hp h1, hne, hk.owns ho h2, hB, ha⟩

theorem Rd.lt {base : Nat} {w : World} {q : Nat} {v : Value} {B : List Nat} {at_ fl : Nat} (h : Rd base w q v B at_ fl) : q < w.heap.size := lt_of_heap h.2.1
theorem Rd.own {base : Nat} {w : World} {q : Nat} {v : Value} {B : List Nat} {at_ fl : Nat} (h : Rd base w q v B at_ fl) {k : Nat} (hk : v.ownBlock = some k) : base ≤ k ∧ k < w.heap.size := h.2.2.2.1.lt k hk

/-- It stands elsewhere now. -/
theorem Rd.move {base : Nat} {w : World} {q : Nat} {v : Value} {B : List Nat} {at_ fl : Nat} (h : Rd base w q v B at_ fl) (at' : Nat) (ha' : at' ≤ 8 * B.length) : Rd base (w.setCell ⟨q, 1, none⟩ (.int .i64 (at' : Int))) q v B at' fl := by
  obtain ⟨hb, hp, hne, ho, hB, ha⟩ := h
  have hk := Kept.setCell (S := One q) (p := ⟨q, 1, none⟩) (Kept.refl _ w) (.inl rfl) (.int .i64 (at' : Int))
  exact ⟨hb, by rw [heap_set hp]; simp, hne, hk.owns ho (fun k hk e => hne (by rw [hk, e])), hB, ha'⟩

/-- It has failed. -/
theorem Rd.failed {base : Nat} {w : World} {q : Nat} {v : Value} {B : List Nat} {at_ fl : Nat} (h : Rd base w q v B at_ fl) (fl' : Nat) : Rd base (w.setCell ⟨q, 2, none⟩ (.int .i64 (fl' : Int))) q v B at_ fl' := by
  obtain ⟨hb, hp, hne, ho, hB, ha⟩ := h
  have hk := Kept.setCell (S := One q) (p := ⟨q, 2, none⟩) (Kept.refl _ w) (.inl rfl) (.int .i64 (fl' : Int))
  exact ⟨hb, by rw [heap_set hp]; simp, hne, hk.owns ho (fun k hk e => hne (by rw [hk, e])), hB, ha⟩

/-- What the call of Take with k bits tells, and where it leaves the reader. -/
def short (B : List Nat) (at_ fl k : Nat) : Bool := decide (fl ≠ 0) || decide (8 * B.length < at_ + k)
def rval (B : List Nat) (at_ fl k : Nat) : Nat := bif short B at_ fl k then 0 else be B / 2 ^ (8 * B.length - (at_ + k)) % 2 ^ k
def rat (B : List Nat) (at_ fl k : Nat) : Nat := bif short B at_ fl k then at_ else at_ + k
def rfail (B : List Nat) (at_ fl k : Nat) : Nat := bif decide (fl ≠ 0) then fl else bif decide (8 * B.length < at_ + k) then 2 else 0

def RdPost (base : Nat) (w : World) (q : Nat) (v : Value) (B : List Nat) (at_ fl : Nat) (w' : World) : Prop := Rd base w' q v B at_ fl ∧ Kept (One q) w w'

/-- A piece of a byte, as a part of the number that all bytes are. -/
theorem piece (B : List Nat) (at_ s : Nat) (hB : ∀ b ∈ B, b < 256) (hs : s ≤ 8 - at_ % 8) (ha : at_ + s ≤ 8 * B.length) (hs1 : 1 ≤ s) :
    B.getD (at_ / 8) 0 / 2 ^ (8 - at_ % 8 - s) % 2 ^ s = be B / 2 ^ (8 * B.length - (at_ + s)) % 2 ^ s := by
  rw [be_get B.length B (at_ / 8) rfl hB (by omega), part_of_byte _ _ _ (by omega), Nat.div_div_eq_div_mul, ← Nat.pow_add]
  congr 3
  omega

set_option maxRecDepth 10000 in
set_option maxHeartbeats 400000 in
theorem left_any (base q : Nat) (v : Value) (B : List Nat) (at_ fl : Nat) (w : World) (h : Rd base w q v B at_ fl) (hl : 8 * B.length < 1099511627776) :
    Calls Try.prog 66 #[.pointer (some ⟨q, 0, none⟩)] w fun e w' => e = .returned (.int .i64 ((8 * B.length - at_ : Nat) : Int)) ∧ ∃ n, w' = w.drewN n := by
  have hc0 := cell_of (i := 0) h.2.1
  have hc1 := cell_of (i := 1) h.2.1
  simp only [List.getElem?_toArray, List.getElem?_cons_zero, List.getElem?_cons_succ] at hc0 hc1
  obtain ⟨ao, cap, rfl, hcap, hmax⟩ := owns_shape h.2.2.2.1
  have ha := h.2.2.2.2.2
  have w1 : IntKind.i64.wrap (8 * (B.length : Int)) = 8 * (B.length : Int) := IntWalk.i64_in _ (by omega)
  have w2 : IntKind.i64.wrap (8 * (B.length : Int) - (at_ : Int)) = ((8 * B.length - at_ : Nat) : Int) := by rw [IntWalk.i64_in _ (by omega)]; omega
  clear h
  go_enter Try.func66, Try.ntmps66
  go_wp2
  go_quiet (fail)
  go_wp2
  go_ret
  exact ⟨rfl, _, rfl⟩

/-- What holds at the label. -/
def TakeInv (base : Nat) (w : World) (q : Nat) (v : Value) (B : List Nat) (at_ k : Nat) (a : Act) (w' : World) : Prop :=
  a.defers = [] ∧ a.tmps.size = 68 ∧ a.tmps[0]? = some (.pointer (some ⟨q, 0, none⟩)) ∧
  ∃ left, left ≤ k ∧ a.tmps[5]? = some (.int .i64 ((left : Nat) : Int)) ∧ a.tmps[6]? = some (.int .u64 ((be B / 2 ^ (8 * B.length - (at_ + (k - left))) % 2 ^ (k - left) : Nat) : Int)) ∧ RdPost base w q v B (at_ + (k - left)) 0 w'

def takeMeasure (a : Act) : Nat := (intOf (a.tmps.getD 5 undef)).toNat

noncomputable def takeRest : Code := behindLabel (Try.f52.body.getD .skip) 0

set_option maxRecDepth 10000 in
set_option maxHeartbeats 400000 in
theorem take_pass (base q : Nat) (v : Value) (B : List Nat) (at_ k : Nat) (w : World) (hk : k ≤ 64) (hl : 8 * B.length < 1099511627776) (hak : at_ + k ≤ 8 * B.length)
    (R : Ending → World → Prop) (hR : ∀ w', RdPost base w q v B (at_ + k) 0 w' → R (.returned (.int .u64 ((be B / 2 ^ (8 * B.length - (at_ + k)) % 2 ^ k : Nat) : Int))) w')
    (a : Act) (w' : World) (hi : TakeInv base w q v B at_ k a w') :
    takeRest.wp Try.prog (Exit.jump 0 (fun a' w'' => TakeInv base w q v B at_ k a' w'' ∧ takeMeasure a' < takeMeasure a) (bodyPost Try.prog Try.f52 R)) a w' := by
  have HRet := Lib.hid hR
  clear hR
  obtain ⟨tm, df⟩ := a
  obtain ⟨rfl, hs, h0, left, hle, h5, h6, hrd, hkp⟩ := hi
  simp only at hs h0 h5 h6
  obtain ⟨f, hf, hg⟩ := fr_open hs
  have e0 := hg _ _ h0
  have e5 := hg _ _ h5
  have e6 := hg _ _ h6
  simp only [List.range, List.range.loop, List.map] at hf
  rw [e0, e5, e6] at hf
  clear e0 e5 e6 hg hs h0 h5 h6
  subst hf
  conv => arg 2; whnf
  by_cases hl0 : left = 0
  · subst hl0
    simp only [Nat.sub_zero] at hrd
    go_wp2
    exact HRet.out _ ⟨hrd, hkp⟩
  · have hl1 : ((left : Int) == 0) = false := by simp; omega
    have hc0 := cell_of (i := 0) hrd.2.1
    have hc1 := cell_of (i := 1) hrd.2.1
    have hz1 := frozen_of (i := 1) hrd.2.1
    simp only [List.getElem?_toArray, List.getElem?_cons_zero, List.getElem?_cons_succ] at hc0 hc1
    obtain ⟨g, cap, hv, hcap, hmax, hgb, hgl⟩ := owns_pos hrd.2.2.2.1 (by omega)
    subst hv
    generalize hA : at_ + (k - left) = A at *
    generalize hn : be B / 2 ^ (8 * B.length - A) % 2 ^ (k - left) = n at *
    have HA := Lib.hid hA
    have HN := Lib.hid hn
    have hAl : A < 8 * B.length := by omega
    obtain ⟨i, hi⟩ : ∃ i, A / 8 = i := ⟨_, rfl⟩
    have hgc := hrd.2.2.2.1.cellAt i (by omega)
    rw [u8s_get _ _ (by omega)] at hgc
    have hx := getD_lt B i hrd.2.2.2.2.1
    generalize hxx : B.getD i 0 = x at *
    have HX := Lib.hid hxx
    have HI := Lib.hid hi
    clear hA hn hxx hi
    obtain ⟨r, hr⟩ : ∃ r, 8 - A % 8 = r := ⟨_, rfl⟩
    obtain ⟨s, hs1, hs2, hs3, hs4⟩ : ∃ s : Nat, 1 ≤ s ∧ s ≤ r ∧ s ≤ left ∧ (s = r ∨ s = left) := ⟨min r left, by omega, by omega, by omega, by omega⟩
    obtain ⟨d, rfl⟩ : ∃ d, left = d + s := ⟨left - s, by omega⟩
    obtain ⟨c, hrc⟩ : ∃ c, r = c + s := ⟨r - s, by omega⟩
    have hl2 : ((d : Int) + (s : Int) == 0) = false := by simp; omega
    have HR' := Lib.hid hr
    have HRC := Lib.hid hrc
    have HS4 := Lib.hid hs4
    clear hr hrc hs4
    go_upto_region 11 with fail
    refine wp_cut (fun a' w3 => w3 = w' ∧ a'.defers = [] ∧ a'.tmps.size = 68 ∧ a'.tmps[0]? = some (.pointer (some ⟨q, 0, none⟩)) ∧ a'.tmps[5]? = some (.int .i64 ((d + s : Nat) : Int)) ∧ a'.tmps[6]? = some (.int .u64 (n : Int)) ∧ a'.tmps[7]? = some (.int .i64 ((c + s : Nat) : Int)) ∧ a'.tmps[8]? = some (.int .i64 ((s : Nat) : Int))) ?_ ?_
    · rintro ⟨tm3, df3⟩ w3 ⟨rfl, rfl, hs, h0, h5, h6, h7, h8⟩
      simp only at hs h0 h5 h6 h7 h8
      obtain ⟨f3, hf3, hg⟩ := fr_open hs
      have e0 := hg _ _ h0
      have e5 := hg _ _ h5
      have e6 := hg _ _ h6
      have e7 := hg _ _ h7
      have e8 := hg _ _ h8
      simp only [List.range, List.range.loop, List.map] at hf3
      rw [e0, e5, e6, e7, e8] at hf3
      clear e0 e5 e6 e7 e8 hg hs h0 h5 h6 h7 h8
      subst hf3
      have hc8 : c + s ≤ 8 := by have := HRC.out; have := HR'.out; omega
      go_wp2
      obtain ⟨y, hy⟩ : ∃ y, x / 2 ^ c % 2 ^ s = y := ⟨_, rfl⟩
      obtain ⟨m, hm⟩ : ∃ m, n * 2 ^ s = m := ⟨_, rfl⟩
      obtain ⟨my, hmy⟩ : ∃ my, m + y = my := ⟨_, rfl⟩
      have hys : y < 2 ^ s := by rw [← hy]; exact Nat.mod_lt _ (Nat.two_pow_pos s)
      have hy8 : y < 2 ^ 8 := Nat.lt_of_lt_of_le hys (Nat.pow_le_pow_right (by decide) (by omega))
      have hn : n < 2 ^ (k - (d + s)) := by rw [← HN.out]; exact Nat.mod_lt _ (Nat.two_pow_pos _)
      have hm64 : m < 2 ^ 64 := by
        rw [← hm]
        exact Nat.lt_of_lt_of_le (Nat.mul_lt_mul_of_pos_right hn (Nat.two_pow_pos s)) (by rw [← Nat.pow_add]; exact Nat.pow_le_pow_right (by decide) (by omega))
      have hm0 : m % 2 ^ s = 0 := by rw [← hm]; exact Nat.mul_mod_left _ _
      have hlow : ∀ wx : World, Calls Try.prog 62 #[.int .u8 ((x : Int) / 2 ^ c), .int .i64 (s : Int)] wx fun e w'' => e = .returned (.int .u8 (y : Int)) ∧ w'' = wx := by
        intro wx
        have e1 : (x : Int) / 2 ^ c = ((x / 2 ^ c : Nat) : Int) := by rw [Int.natCast_ediv, Int.natCast_pow]; rfl
        rw [e1, ← hy]
        exact (lowest_any _ s _ (Nat.lt_of_le_of_lt (Nat.div_le_self _ _) hx) hs1 (by omega)).mono fun _ _ ⟨h, h'⟩ => ⟨h, h'.symm⟩
      have w1 : IntKind.i64.wrap (c : Int) = c := IntWalk.i64_in _ (by omega)
      have w2 : IntKind.i64.wrap ((A : Int) / 8) = (i : Int) := by rw [IntWalk.i64_in _ (by omega)]; have := HI.out; omega
      have w3' : IntKind.u64.wrap ((n : Int) * 2 ^ s) = (m : Int) := by
        rw [show ((n : Int) * 2 ^ s) = ((m : Nat) : Int) by rw [← hm, Int.natCast_mul, Int.natCast_pow]; rfl, IntKind.wrap_u64]; omega
      have w4 : bits .or .u64 (m : Int) (y : Int) = (my : Int) := by
        rw [u64_or_nat m y (by omega) (by omega), or_add m y s hm0 hys, hmy]
      have w5 : IntKind.u64.wrap (y : Int) = (y : Int) := by rw [IntKind.wrap_u64]; omega
      have b1 : (i : Int) < (B.length : Int) := by have := HI.out; omega
      have HY := Lib.hid hy
      have HM := Lib.hid hm
      have HMY := Lib.hid hmy
      clear hy hm hmy hys hy8 hn hm64 hm0
      go_quiet ((go_at_call 62; exact Calls.quiet_of_same (hlow _)))
      go_wp2
      refine wp_goto ⟨rfl, ⟨rfl, rfl, rfl, d, by omega, rfl, ?_, ?_, ?_⟩, ?_⟩
      · have e1 : at_ + (k - d) = A + s := by have := HA.out; omega
        have e2 : be B / 2 ^ (8 * B.length - (at_ + (k - d))) % 2 ^ (k - d) = my := by
          rw [← HMY.out, ← HM.out, ← HN.out, ← HY.out, e1]
          have h := take_more (be B) (8 * B.length - A) (k - (d + s)) s (by omega)
          rw [show 8 * B.length - A - s = 8 * B.length - (A + s) by omega, show k - (d + s) + s = k - d by omega] at h
          rw [← h, ← HX.out, ← HI.out]
          have h2 := piece B A s hrd.2.2.2.2.1 (by have := HR'.out; omega) (by omega) hs1
          rw [← h2, show 8 - A % 8 - s = c by have := HR'.out; have := HRC.out; omega]
        rw [e2]; rfl
      · have e1 : at_ + (k - d) = A + s := by have := HA.out; omega
        rw [e1]
        exact (Rd.move (w := w3.drewN nq) hrd (A + s) (by omega))
      · exact (hkp.drewN nq).setCell (p := ⟨q, 1, none⟩) (.inl rfl) _
      · simp [takeMeasure, intOf]
        omega
    · intro J K' hJ hK'
      have e7 : (8 - (A : Int) % 8) = ((c + s : Nat) : Int) := by have := HRC.out; have := HR'.out; omega
      go_wp2
      all_goals
        have h4 := HS4.out
        have h5 := HRC.out
        refine hJ _ _ ⟨rfl, rfl, rfl, rfl, rfl, rfl, rfl, ?_⟩
      · show some (Value.int .i64 ((d : Int) + (s : Int))) = _
        rw [show (d : Int) + (s : Int) = (s : Int) by omega]
      · show some (Value.int .i64 ((c : Int) + (s : Int))) = _
        rw [show (c : Int) + (s : Int) = (s : Int) by omega]

set_option maxRecDepth 10000 in
set_option maxHeartbeats 400000 in
theorem take_any (base q : Nat) (v : Value) (B : List Nat) (at_ fl : Nat) (width : Int) (w : World) (h : Rd base w q v B at_ fl) (hl : 8 * B.length < 1099511627776) :
    Calls Try.prog 52 #[.pointer (some ⟨q, 0, none⟩), .int .i64 width] w fun e w' => e = .returned (.int .u64 ((rval B at_ fl (wid width) : Nat) : Int)) ∧ RdPost base w q v B (rat B at_ fl (wid width)) (rfail B at_ fl (wid width)) w' := by
  have hk := wid_le width
  have hc2 := cell_of (i := 2) h.2.1
  have hz2 := frozen_of (i := 2) h.2.1
  simp only [List.getElem?_toArray, List.getElem?_cons_zero, List.getElem?_cons_succ] at hc2
  have ha := h.2.2.2.2.2
  by_cases hf : fl = 0
  · subst hf
    by_cases hs : 8 * B.length < at_ + wid width
    · have e1 : rval B at_ 0 (wid width) = 0 := by simp [rval, short, hs]
      have e2 : rat B at_ 0 (wid width) = at_ := by simp [rat, short, hs]
      have e3 : rfail B at_ 0 (wid width) = 2 := by simp [rfail, hs]
      rw [e1, e2, e3]
      have ht : decide (((8 * B.length - at_ : Nat) : Int) < ((wid width : Nat) : Int)) = true := by simp; omega
      have hlt : 8 * B.length - at_ < wid width := by omega
      have HL := Lib.hid (left_any base q v B at_ 0)
      clear e1 e2 e3
      go_enter Try.func52, Try.ntmps52
      go_wp2
      go_step3
      go_wp2_with (first | (go_at_call 60; refine (held_any _ _).mono ?_; rintro e w' ⟨rfl, rfl⟩) | (go_at_call 66; refine (HL.out _ h hl).mono ?_; rintro e w' ⟨rfl, n1, rfl⟩))
      rw [Exit.noGoto_ret]
      go_ret
      exact ⟨rfl, Rd.failed (w := w.drewN n1) h 2, ((Kept.refl (One q) w).drewN n1).setCell (p := ⟨q, 2, none⟩) (.inl rfl) _⟩
    · have e1 : rval B at_ 0 (wid width) = be B / 2 ^ (8 * B.length - (at_ + wid width)) % 2 ^ wid width := by simp [rval, short, hs]
      have e2 : rat B at_ 0 (wid width) = at_ + wid width := by simp [rat, short, hs]
      have e3 : rfail B at_ 0 (wid width) = 0 := by simp [rfail, hs]
      rw [e1, e2, e3]
      have hlt : ¬ 8 * B.length - at_ < wid width := by omega
      have HL := Lib.hid (left_any base q v B at_ 0)
      clear e1 e2 e3
      have hP := Lib.hid (take_pass base q v B at_ (wid width) w hk hl (by omega) (fun e w' => e = .returned (.int .u64 ((be B / 2 ^ (8 * B.length - (at_ + wid width)) % 2 ^ wid width : Nat) : Int)) ∧ RdPost base w q v B (at_ + wid width) 0 w') (fun w' h => ⟨rfl, h⟩))
      go_enter Try.func52, Try.ntmps52
      go_wp2
      refine wp_scope_jumps 0 (TakeInv base w q v B at_ (wid width)) (fun a' _ => takeMeasure a') rfl ?_ ?_
      · go_wp2_with (first | (go_at_call 60; refine (held_any _ _).mono ?_; rintro e w' ⟨rfl, rfl⟩) | (go_at_call 66; refine (HL.out _ h hl).mono ?_; rintro e w' ⟨rfl, n1, rfl⟩))
        go_step3
        rename_i K hK
        refine hK _ _ ?_
        refine wp_mono (hP.out _ _ ⟨rfl, rfl, rfl, wid width, Nat.le_refl _, rfl, ?_, ?_, ?_⟩) ?_
        · simp [Nat.mod_one]
        · rw [show at_ + (wid width - wid width) = at_ by omega]
          exact h
        · exact (Kept.refl _ _).drewN n1
        · intro e a' w' h
          cases e with
          | goto l => exact ⟨h.1, h.2.1⟩
          | normal => exact h
          | exit id => exact h
          | ret => exact h
          | panic ch => exact h
          | outgrown => exact h
      · intro a' w' hi
        refine wp_seq (wp_skip ?_)
        exact hP.out a' w' hi
  · have e1 : rval B at_ fl (wid width) = 0 := by simp [rval, short, hf]
    have e2 : rat B at_ fl (wid width) = at_ := by simp [rat, short, hf]
    have e3 : rfail B at_ fl (wid width) = fl := by simp [rfail, hf]
    rw [e1, e2, e3]
    have hne : ((fl : Int) != 0) = true := by simp; omega
    clear e1 e2 e3
    go_enter Try.func52, Try.ntmps52
    go_wp2
    go_step3
    go_wp2_with (go_at_call 60; refine (held_any _ _).mono ?_; rintro e w' ⟨rfl, rfl⟩)
    rw [Exit.noGoto_ret]
    go_ret
    exact ⟨rfl, h, Kept.refl _ _⟩

end Go.Proofs.Ytlbnjclchmnomaa

namespace Go.Proofs.Ytlbnjclchmnomaa
open Go.RowKit Bx

def NewPost (base : Nat) (w : World) (e : Ending) (w' : World) : Prop :=
  ∃ p, e = .returned (.pointer (some ⟨p, 0, none⟩)) ∧ w.heap.size ≤ p ∧ Wr base w' p (.slice none 0 0) 0 0 0 ∧ Kept Nix w w'

set_option maxRecDepth 10000 in
set_option maxHeartbeats 400000 in
theorem new_any (base : Nat) (w : World) (hb : base ≤ w.heap.size) : Calls Try.prog 8 #[] w (NewPost base w) := by
  go_enter Try.func8, Try.ntmps8
  go_wp2
  go_ret
  refine ⟨w.heap.size, rfl, Nat.le_refl _, ⟨hb, heap_alloc_new w _, by simp [Value.ownBlock], [], World.ownsRow_nil _ _ _ _, pk_nil⟩, (Kept.refl _ _).alloc _⟩

set_option maxRecDepth 10000 in
set_option maxHeartbeats 400000 in
theorem len_any (base p : Nat) (v : Value) (N c r : Nat) (w : World) (h : Wr base w p v N c r) : Calls Try.prog 11 #[.pointer (some ⟨p, 0, none⟩)] w fun e w' => e = .returned (.int .i64 (c : Int)) ∧ w = w' := by
  have hc1 := cell_of (i := 1) h.2.1
  simp only [List.getElem?_toArray, List.getElem?_cons_zero, List.getElem?_cons_succ] at hc1
  clear h
  go_enter Try.func11, Try.ntmps11
  go_wp2
  go_ret
  exact ⟨rfl, rfl⟩

/-- A writer filled: as many bits 0 as are missing to a byte. -/
def pad (c : Nat) : Nat := (8 - c % 8) % 8

def ClonePost (base : Nat) (w : World) (B : List Nat) (e : Ending) (w' : World) : Prop :=
  ∃ v', e = .returned v' ∧ w'.ownsRow base 5 1 v' B.length (u8s B) ∧ Kept Nix w w' ∧ ∀ k, v'.ownBlock = some k → w.heap.size ≤ k

set_option maxRecDepth 10000 in
set_option maxHeartbeats 400000 in
theorem clone_any (base : Nat) (v : Value) (B : List Nat) (w : World) (h : Sl w v (u8s B)) (hl : B.length < 1099511627776) (hb : base ≤ w.heap.size) : Calls Try.prog 31 #[v] w (ClonePost base w B) := by
  obtain ⟨ao, cap, rfl, hsrc⟩ := src_of_sl h (u8s_one B)
  have heq := fun wx => Lib.run_eql_slice_nil (P := Try.prog) wx 26 5 ao (u8s B).length cap 0 0 Try.underlying26
  rw [u8s_length] at *
  cases ao with
  | none =>
    obtain ⟨h0, rfl⟩ := hsrc.2.1 rfl
    have hB : B = [] := List.eq_nil_of_length_eq_zero h0
    subst hB
    simp only [List.length_nil] at heq ⊢
    clear hsrc h h0
    go_enter Try.func31, Try.ntmps31
    go_wp2
    go_ret
    exact ⟨_, rfl, World.ownsRow_nil _ _ _ _, Kept.refl _ _, fun k hk => by simp [Value.ownBlock] at hk⟩
  | some ad =>
    have HS := Lib.hid hsrc
    clear hsrc h
    go_enter Try.func31, Try.ntmps31
    go_wp2_with (at_builtin; refine wpList_app _ rfl (.tmp 5) (.tmp 6) 26 rfl base 5 (.int .u8 0) 1 1 Try.underlying26 info_u8 rfl (by decide) (.slice (some ⟨w.heap.size, 0, none⟩) 0 0) 0 [] rfl ?_ (some ad) B.length cap (u8s B) rfl ?_ ?_ ?_ ?_ ?_)
    · exact World.ownsRow_made w #[] 0 hb (by simp [maxLen]) rfl
    · exact HS.out.alloc _
    · simp only [maxLen]; omega
    · omega
    · simp; omega
    · intro v1 w1 ho1 hg1 hv1
      go_wp2
      go_ret
      refine ⟨v1, rfl, ho1, ((Kept.refl _ w).alloc _).grown hg1 (fun k hk => .inr ?_), fun k hk => ?_⟩
      · simp only [Value.ownBlock, Option.some.injEq] at hk; omega
      · rcases hv1 with h | h
        · rw [h] at hk; simp only [Value.ownBlock, Option.some.injEq] at hk; omega
        · rw [h] at hk; simp only [Option.some.injEq] at hk; omega

set_option maxRecDepth 10000 in
set_option maxHeartbeats 400000 in
theorem bytes_any (base p : Nat) (v : Value) (N c r : Nat) (B : List Nat) (w : World) (h : w.heap[p]? = some (.cells #[v, .int .i64 c] 58 (0, 0))) (ho : w.ownsRow base 5 1 v B.length (u8s B)) (hpk : Pk B N c r) (hc : c < 1099511627776) (hr : r ≤ 8) (hb : base ≤ w.heap.size) :
    Calls Try.prog 13 #[.pointer (some ⟨p, 0, none⟩)] w (ClonePost base w B) := by
  have hc0 := cell_of (i := 0) h
  simp only [List.getElem?_toArray, List.getElem?_cons_zero] at hc0
  have hlen := hpk.2.1
  have HC := Lib.hid (clone_any base v B w (sl_of_owns ho) (by omega) hb)
  obtain ⟨ao, cap, rfl, hcap, hmax⟩ := owns_shape ho
  clear h ho hpk hlen hcap
  go_enter Try.func13, Try.ntmps13
  go_wp2_with (go_at_call 31; refine HC.out.mono ?_; rintro e w' ⟨v', rfl, h1, h2, h3⟩)
  go_ret
  exact ⟨v', rfl, h1, h2, h3⟩

def OpenPost (base : Nat) (w : World) (B : List Nat) (e : Ending) (w' : World) : Prop :=
  ∃ q v', e = .returned (.pointer (some ⟨q, 0, none⟩)) ∧ w.heap.size ≤ q ∧ Rd base w' q v' B 0 0 ∧ Kept Nix w w' ∧ ∀ k, v'.ownBlock = some k → w.heap.size ≤ k

set_option maxRecDepth 10000 in
set_option maxHeartbeats 400000 in
theorem open_any (base : Nat) (v : Value) (B : List Nat) (w : World) (h : Sl w v (u8s B)) (hB : ∀ b ∈ B, b < 256) (hl : B.length < 1099511627776) (hb : base ≤ w.heap.size) : Calls Try.prog 12 #[v] w (OpenPost base w B) := by
  have HC := Lib.hid (clone_any base v B w h hl hb)
  obtain ⟨ao, cap, rfl, _⟩ := h
  go_enter Try.func12, Try.ntmps12
  go_wp2_with (go_at_call 31; refine HC.out.mono ?_; rintro e w' ⟨v', rfl, h1, h2, h3⟩; obtain ⟨ao', cap', rfl, hc', hm'⟩ := owns_shape h1)
  go_ret
  refine ⟨w'.heap.size, _, rfl, h2.size, ⟨Nat.le_trans hb h2.size, heap_alloc_new w' _, ?_, h1.alloc _, hB, Nat.zero_le _⟩, h2.alloc _, h3⟩
  intro e
  have := (h1.lt _ e).2
  omega

set_option maxRecDepth 10000 in
set_option maxHeartbeats 400000 in
theorem at_any (base q : Nat) (v : Value) (B : List Nat) (at_ fl : Nat) (w : World) (h : Rd base w q v B at_ fl) : Calls Try.prog 17 #[.pointer (some ⟨q, 0, none⟩)] w fun e w' => e = .returned (.int .i64 (at_ : Int)) ∧ w = w' := by
  have hc1 := cell_of (i := 1) h.2.1
  simp only [List.getElem?_toArray, List.getElem?_cons_zero, List.getElem?_cons_succ] at hc1
  clear h
  go_enter Try.func17, Try.ntmps17
  go_wp2
  go_ret
  exact ⟨rfl, rfl⟩

set_option maxRecDepth 10000 in
set_option maxHeartbeats 400000 in
theorem fail_any (base q : Nat) (v : Value) (B : List Nat) (at_ fl : Nat) (w : World) (h : Rd base w q v B at_ fl) : Calls Try.prog 53 #[.pointer (some ⟨q, 0, none⟩)] w fun e w' => e = .returned (.int .i64 (fl : Int)) ∧ w = w' := by
  have hc1 := cell_of (i := 2) h.2.1
  simp only [List.getElem?_toArray, List.getElem?_cons_zero, List.getElem?_cons_succ] at hc1
  clear h
  go_enter Try.func53, Try.ntmps53
  go_wp2
  go_ret
  exact ⟨rfl, rfl⟩

/-- What End tells. -/
def rend (B : List Nat) (at_ fl : Nat) : Nat := bif decide (fl = 0) && decide (at_ < 8 * B.length) then 3 else fl

/-- Where Fill leaves the reader. -/
def fat (B : List Nat) (at_ fl : Nat) : Nat := bif rval B at_ fl (pad at_) != 0 then at_ else rat B at_ fl (pad at_)
def ffail (B : List Nat) (at_ fl : Nat) : Nat := bif rval B at_ fl (pad at_) != 0 then 5 else rfail B at_ fl (pad at_)

end Go.Proofs.Ytlbnjclchmnomaa
