/- The contract of rice.Take, for any bytes. -/
import Derived.Test.YtlhplgeohffjeaaRicePut
namespace Go.Proofs.Ytlhplgeohffjeaa
open Go.RowKit Bx

/-- A bit; how many bits from a on are 0, of m; and of all that are left. -/
def bt (B : List Nat) (a : Nat) : Nat := be B / 2 ^ (8 * B.length - (a + 1)) % 2
def zrun (B : List Nat) : Nat → Nat → Nat
  | 0, _ => 0
  | m + 1, a => if bt B a = 1 then 0 else zrun B m (a + 1) + 1
def tz (B : List Nat) (a : Nat) : Nat := zrun B (8 * B.length - a) a

theorem zrun_le (B : List Nat) : ∀ m a, zrun B m a ≤ m := by
  intro m
  induction m with
  | zero => intro a; simp [zrun]
  | succ m ih => intro a; simp only [zrun]; have := ih (a + 1); split <;> omega
theorem tz_le (B : List Nat) (a : Nat) : tz B a ≤ 8 * B.length - a := zrun_le B _ a
theorem tz_end (B : List Nat) (a : Nat) (h : 8 * B.length ≤ a) : tz B a = 0 := by unfold tz; rw [show 8 * B.length - a = 0 by omega]; rfl
theorem tz_one (B : List Nat) (a : Nat) (h : a < 8 * B.length) (hb : bt B a = 1) : tz B a = 0 := by
  unfold tz; obtain ⟨m, hm⟩ : ∃ m, 8 * B.length - a = m + 1 := ⟨8 * B.length - a - 1, by omega⟩
  rw [hm]; simp [zrun, hb]
theorem tz_zero (B : List Nat) (a : Nat) (h : a < 8 * B.length) (hb : bt B a ≠ 1) : tz B a = tz B (a + 1) + 1 := by
  unfold tz; obtain ⟨m, hm⟩ : ∃ m, 8 * B.length - a = m + 1 := ⟨8 * B.length - a - 1, by omega⟩
  rw [hm, show 8 * B.length - (a + 1) = m by omega]; simp [zrun, hb]

/-- What Take tells, and where it leaves the reader. -/
def tkv (B : List Nat) (at_ fl k : Nat) : Int := if fl ≠ 0 then 0 else if at_ + tz B at_ + 1 + k ≤ 8 * B.length then uf (tz B at_ * 2 ^ k + be B / 2 ^ (8 * B.length - (at_ + tz B at_ + 1 + k)) % 2 ^ k) else 0
def tka (B : List Nat) (at_ fl k : Nat) : Nat := if fl ≠ 0 then at_ else if at_ + tz B at_ + 1 + k ≤ 8 * B.length then at_ + tz B at_ + 1 + k else if at_ + tz B at_ + 1 ≤ 8 * B.length then at_ + tz B at_ + 1 else at_ + tz B at_
def tkf (B : List Nat) (at_ fl k : Nat) : Nat := if fl ≠ 0 then fl else if at_ + tz B at_ + 1 + k ≤ 8 * B.length then 0 else 2

theorem tk_in {B : List Nat} {at_ k z : Nat} (hz : tz B at_ = z) (h : at_ + z + 1 + k ≤ 8 * B.length) : tkv B at_ 0 k = uf (z * 2 ^ k + be B / 2 ^ (8 * B.length - (at_ + z + 1 + k)) % 2 ^ k) ∧ tka B at_ 0 k = at_ + z + 1 + k ∧ tkf B at_ 0 k = 0 := by
  subst hz; simp [tkv, tka, tkf, h]
theorem tk_mid {B : List Nat} {at_ k z : Nat} (hz : tz B at_ = z) (h : ¬ at_ + z + 1 + k ≤ 8 * B.length) (h2 : at_ + z + 1 ≤ 8 * B.length) : tkv B at_ 0 k = 0 ∧ tka B at_ 0 k = at_ + z + 1 ∧ tkf B at_ 0 k = 2 := by
  subst hz; simp [tkv, tka, tkf, h, h2]
theorem tk_end {B : List Nat} {at_ k z : Nat} (hz : tz B at_ = z) (h2 : ¬ at_ + z + 1 ≤ 8 * B.length) : tkv B at_ 0 k = 0 ∧ tka B at_ 0 k = at_ + z ∧ tkf B at_ 0 k = 2 := by
  have h : ¬ at_ + z + 1 + k ≤ 8 * B.length := by omega
  subst hz; simp [tkv, tka, tkf, h, h2]

def RiceTakeInv (base : Nat) (w : World) (q : Nat) (v : Value) (B : List Nat) (at_ k : Nat) (a : Act) (w' : World) : Prop :=
  a.defers = [] ∧ a.tmps.size = 31 ∧ a.tmps[0]? = some (.pointer (some ⟨q, 0, none⟩)) ∧ a.tmps[1]? = some (.int .i64 (k : Int)) ∧
  ∃ z, at_ + z ≤ 8 * B.length ∧ tz B at_ = tz B (at_ + z) + z ∧ a.tmps[5]? = some (.int .u64 ((z : Nat) : Int)) ∧ RdPost base w q v B (at_ + z) 0 w'

def riceTakeMeasure (n : Nat) (a : Act) : Nat := n - (intOf (a.tmps.getD 5 undef)).toNat

noncomputable def riceTakeRest : Code := behindLabel (Try.f28.body.getD .skip) 0

def RiceTakePost (base : Nat) (w : World) (q : Nat) (v : Value) (B : List Nat) (at_ fl k : Nat) (e : Ending) (w' : World) : Prop :=
  e = .returned (.int .i64 (tkv B at_ fl k)) ∧ RdPost base w q v B (tka B at_ fl k) (tkf B at_ fl k) w'

theorem RdPost.trans {base q : Nat} {w w1 w2 : World} {v : Value} {B : List Nat} {at_ fl : Nat} (hk : Kept (One q) w w1) (h : RdPost base w1 q v B at_ fl w2) : RdPost base w q v B at_ fl w2 :=
  ⟨h.1, hk.trans h.2 (fun _ h => h) (fun _ _ h => h)⟩

theorem bt_rval (B : List Nat) (a : Nat) (h : a < 8 * B.length) : rval B a 0 1 = bt B a ∧ rat B a 0 1 = a + 1 ∧ rfail B a 0 1 = 0 := by
  have hs : short B a 0 1 = false := by simp [short]; omega
  refine ⟨by simp [rval, hs, bt], by simp [rat, hs], by simp [rfail, show ¬ 8 * B.length < a + 1 by omega]⟩
theorem end_rval (B : List Nat) (a k : Nat) (h : 8 * B.length < a + k) : rval B a 0 k = 0 ∧ rat B a 0 k = a ∧ rfail B a 0 k = 2 := by
  have hs : short B a 0 k = true := by simp [short]; omega
  exact ⟨by simp [rval, hs], by simp [rat, hs], by simp [rfail, h]⟩
theorem in_rval (B : List Nat) (a k : Nat) (h : a + k ≤ 8 * B.length) : rval B a 0 k = be B / 2 ^ (8 * B.length - (a + k)) % 2 ^ k ∧ rat B a 0 k = a + k ∧ rfail B a 0 k = 0 := by
  have hs : short B a 0 k = false := by simp [short]; omega
  exact ⟨by simp [rval, hs], by simp [rat, hs], by simp [rfail, show ¬ 8 * B.length < a + k by omega]⟩

set_option maxHeartbeats 400000 in
theorem riceTake_pass (base q : Nat) (v : Value) (B : List Nat) (at_ k : Nat) (w : World) (hk : k ≤ 30) (hl : 8 * B.length < 8589934592)
    (R : Ending → World → Prop) (hR : ∀ e w', RiceTakePost base w q v B at_ 0 k e w' → R e w')
    (a : Act) (w' : World) (hi : RiceTakeInv base w q v B at_ k a w') :
    riceTakeRest.wp Try.prog (Exit.jump 0 (fun a' w'' => RiceTakeInv base w q v B at_ k a' w'' ∧ riceTakeMeasure (8 * B.length + 1) a' < riceTakeMeasure (8 * B.length + 1) a) (bodyPost Try.prog Try.f28 R)) a w' := by
  have HRet := Lib.hid hR
  clear hR
  obtain ⟨tm, df⟩ := a
  obtain ⟨rfl, hs, h0, h1, z, hzl, hz, h5, hrd, hkp⟩ := hi
  simp only at hs h0 h1 h5
  obtain ⟨f, hf, hg⟩ := fr_open hs
  have e0 := hg _ _ h0
  have e1 := hg _ _ h1
  have e5 := hg _ _ h5
  simp only [List.range, List.range.loop, List.map] at hf
  rw [e0, e1, e5] at hf
  clear e0 e1 e5 hg hs h0 h1 h5
  subst hf
  conv => arg 2; whnf
  have HT := take_any base q v B (at_ + z) 0 1 w' hrd (by omega)
  rw [show wid 1 = 1 by decide] at HT
  by_cases he : at_ + z < 8 * B.length
  · obtain ⟨x1, x2, x3⟩ := bt_rval B (at_ + z) he
    rw [x1, x2, x3] at HT
    have HT := Lib.hid HT
    clear x1 x2 x3
    by_cases hb : bt B (at_ + z) = 1
    · rw [hb] at HT
      have t0 := tz_one B _ he hb
      rw [t0, Nat.zero_add] at hz
      have HTZ := Lib.hid hz
      have HTK := take_any base q v B (at_ + z + 1) 0 (k : Int)
      rw [show wid (k : Int) = k by unfold wid; omega] at HTK
      clear hb t0 hz hrd
      by_cases hke : at_ + z + 1 + k ≤ 8 * B.length
      · obtain ⟨x1, x2, x3⟩ := in_rval B (at_ + z + 1) k hke
        rw [x1, x2, x3] at HTK
        have hlow : be B / 2 ^ (8 * B.length - (at_ + z + 1 + k)) % 2 ^ k < 2 ^ k := Nat.mod_lt _ (Nat.two_pow_pos k)
        have fin : ∀ w2, RdPost base w q v B (at_ + z + 1 + k) 0 w2 → R (.returned (.int .i64 (uf (z * 2 ^ k + be B / 2 ^ (8 * B.length - (at_ + z + 1 + k)) % 2 ^ k)))) w2 := by
          intro w2 h2
          obtain ⟨y1, y2, y3⟩ := tk_in HTZ.out hke
          exact HRet.out _ _ ⟨by rw [y1], by rw [y2, y3]; exact h2⟩
        generalize be B / 2 ^ (8 * B.length - (at_ + z + 1 + k)) % 2 ^ k = low at *
        have hp30 : 2 ^ k ≤ 2 ^ 30 := Nat.pow_le_pow_right (by decide) hk
        have hzk : z * 2 ^ k ≤ 8589934592 * 2 ^ 30 := Nat.mul_le_mul (by omega) hp30
        obtain ⟨m, hm⟩ : ∃ m, z * 2 ^ k = m := ⟨_, rfl⟩
        obtain ⟨y, hy⟩ : ∃ y, m + low = y := ⟨_, rfl⟩
        have w3' : IntKind.u64.wrap ((z : Int) * 2 ^ k) = (m : Int) := by
          rw [show ((z : Int) * 2 ^ k) = ((m : Nat) : Int) by rw [← hm, Int.natCast_mul, Int.natCast_pow]; rfl, IntKind.wrap_u64]; omega
        have w4' : (z : Int) * 2 ^ k = (m : Int) := by rw [← hm, Int.natCast_mul, Int.natCast_pow]; rfl
        have w4 : bits .or .u64 (m : Int) (low : Int) = (y : Int) := by
          rw [u64_or_nat m low (by omega) (by omega), or_add m low k (by rw [← hm]; exact Nat.mul_mod_left _ _) hlow, hy]
        have HU := Lib.hid (unfold_any y)
        have hyb : y < 18446744073709551616 := by omega
        rw [hm, hy] at fin
        have FIN := Lib.hid fin
        have HTK := Lib.hid HTK
        have W4' := Lib.hid w4'
        clear fin hm hy hlow hp30 hzk x1 x2 x3 w4' HTZ HRet
        go_wp2_with fail
        refine HT.out.mono ?_
        rintro e w2 ⟨rfl, hr2, hk2⟩
        have HF := Lib.hid (fail_any base q v B _ _ w2 hr2)
        go_wp2_with (go_at_call 30; refine HF.out.mono ?_; rintro e w' ⟨rfl, rfl⟩)
        refine (HTK.out w2 hr2 (by omega)).mono ?_
        rintro e w3 ⟨rfl, hr3, hk3⟩
        have HF3 := Lib.hid (fail_any base q v B _ _ w3 hr3)
        have K3 := Lib.hid (RdPost.trans hkp (RdPost.trans hk2 ⟨hr3, hk3⟩))
        clear hr2 hr3 hk2 hk3 HF HTK HT
        go_wp2_with (first | (go_at_call 30; refine HF3.out.mono ?_; rintro e w' ⟨rfl, rfl⟩) | (go_at_call 11; refine (HU.out _ hyb).mono ?_; rintro e w' ⟨rfl, rfl⟩))
        exact FIN.out _ K3.out
      · obtain ⟨x1, x2, x3⟩ := end_rval B (at_ + z + 1) k (by omega)
        rw [x1, x2, x3] at HTK
        have fin : ∀ w2, RdPost base w q v B (at_ + z + 1) 2 w2 → R (.returned (.int .i64 0)) w2 := by
          intro w2 h2
          obtain ⟨y1, y2, y3⟩ := tk_mid HTZ.out hke (by omega)
          exact HRet.out _ _ ⟨by rw [y1], by rw [y2, y3]; exact h2⟩
        have FIN := Lib.hid fin
        have HTK := Lib.hid HTK
        clear fin x1 x2 x3 HTZ HRet
        go_wp2_with fail
        refine HT.out.mono ?_
        rintro e w2 ⟨rfl, hr2, hk2⟩
        have HF := Lib.hid (fail_any base q v B _ _ w2 hr2)
        go_wp2_with (go_at_call 30; refine HF.out.mono ?_; rintro e w' ⟨rfl, rfl⟩)
        refine (HTK.out w2 hr2 (by omega)).mono ?_
        rintro e w3 ⟨rfl, hr3, hk3⟩
        have HF3 := Lib.hid (fail_any base q v B _ _ w3 hr3)
        have K3 := Lib.hid (RdPost.trans hkp (RdPost.trans hk2 ⟨hr3, hk3⟩))
        clear hr2 hr3 hk2 hk3 HF HTK HT
        go_wp2_with (go_at_call 30; refine HF3.out.mono ?_; rintro e w' ⟨rfl, rfl⟩)
        exact FIN.out _ K3.out
    · have t0 := tz_zero B _ he hb
      rw [t0] at hz
      have hb0 : bt B (at_ + z) = 0 := by have : bt B (at_ + z) < 2 := Nat.mod_lt _ (by decide); omega
      rw [hb0] at HT
      have HTZ := Lib.hid hz
      clear hb hb0 t0 hz hrd HRet
      go_wp2_with fail
      refine HT.out.mono ?_
      rintro e w2 ⟨rfl, hr2, hk2⟩
      have HF := Lib.hid (fail_any base q v B _ _ w2 hr2)
      have K2 := Lib.hid (RdPost.trans hkp ⟨hr2, hk2⟩)
      clear hr2 hk2 hkp HT
      go_wp2_with (go_at_call 30; refine HF.out.mono ?_; rintro e w' ⟨rfl, rfl⟩)
      refine wp_goto ⟨rfl, ⟨rfl, rfl, rfl, rfl, z + 1, by omega, ?_, ?_, ?_⟩, ?_⟩
      · show tz B at_ = tz B (at_ + z + 1) + (z + 1)
        have := HTZ.out; omega
      · rfl
      · rw [← Nat.add_assoc]; exact K2.out
      · simp [riceTakeMeasure, intOf]
        omega
  · obtain ⟨x1, x2, x3⟩ := end_rval B (at_ + z) 1 (by omega)
    rw [x1, x2, x3] at HT
    have HT := Lib.hid HT
    rw [tz_end B (at_ + z) (by omega), Nat.zero_add] at hz
    have fin : ∀ w2, RdPost base w q v B (at_ + z) 2 w2 → R (.returned (.int .i64 0)) w2 := by
      intro w2 h2
      obtain ⟨y1, y2, y3⟩ := tk_end (k := k) hz (by omega)
      exact HRet.out _ _ ⟨by rw [y1], by rw [y2, y3]; exact h2⟩
    have FIN := Lib.hid fin
    clear fin x1 x2 x3 hz hrd HRet
    go_wp2_with fail
    refine HT.out.mono ?_
    rintro e w2 ⟨rfl, hr2, hk2⟩
    have HF := Lib.hid (fail_any base q v B _ _ w2 hr2)
    have K2 := Lib.hid (RdPost.trans hkp ⟨hr2, hk2⟩)
    clear hr2 hk2 hkp HT
    go_wp2_with (go_at_call 30; refine HF.out.mono ?_; rintro e w' ⟨rfl, rfl⟩)
    exact FIN.out _ K2.out

set_option maxHeartbeats 400000 in
theorem riceTake_any (base q : Nat) (v : Value) (B : List Nat) (at_ fl : Nat) (k : Int) (w : World) (h : Rd base w q v B at_ fl) (hl : 8 * B.length < 8589934592) :
    Calls Try.prog 28 #[.pointer (some ⟨q, 0, none⟩), .int .i64 k] w (RiceTakePost base w q v B at_ fl (kk k)) := by
  have hkl := kk_le k
  have HK := Lib.hid (rheld_any k w)
  have ha := h.2.2.2.2.2
  by_cases hf : fl = 0
  · subst hf
    have hpass := Lib.hid (riceTake_pass base q v B at_ (kk k) w hkl hl (RiceTakePost base w q v B at_ 0 (kk k)) (fun _ _ h => h))
    have HW := Lib.hid h
    generalize kk k = K at *
    clear h
    go_enter Try.func28, Try.ntmps28
    go_wp2
    refine wp_scope_jumps 0 (RiceTakeInv base w q v B at_ K) (fun a' _ => riceTakeMeasure (8 * B.length + 1) a') rfl ?_ ?_
    · go_wp2_with (go_at_call 31; refine HK.out.mono ?_; rintro e w' ⟨rfl, rfl⟩)
      go_step3
      rename_i K hK
      refine hK _ _ ?_
      refine wp_mono (hpass.out _ _ ⟨rfl, rfl, rfl, rfl, 0, ha, rfl, rfl, HW.out, Kept.refl _ _⟩) ?_
      intro e a' w' h
      cases e with
      | goto l => exact ⟨h.1, h.2.1⟩
      | normal => exact h
      | exit id => exact h
      | ret => exact h
      | panic ch => exact h
      | outgrown => exact h
    · intro a' w' hi
      refine wp_seq (wp_skip ?_)
      exact hpass.out a' w' hi
  · have e1 : tkv B at_ fl (kk k) = 0 := by rw [tkv, if_pos hf]
    have e2 : tka B at_ fl (kk k) = at_ := by rw [tka, if_pos hf]
    have e3 : tkf B at_ fl (kk k) = fl := by rw [tkf, if_pos hf]
    unfold RiceTakePost
    rw [e1, e2, e3]
    have HT := take_any base q v B at_ fl 1 w h (by omega)
    rw [show wid 1 = 1 by decide, show rval B at_ fl 1 = 0 by simp [rval, short, hf], show rat B at_ fl 1 = at_ by simp [rat, short, hf], show rfail B at_ fl 1 = fl by simp [rfail, hf]] at HT
    have HT := Lib.hid HT
    have hne : ((fl : Int) != 0) = true := by simp; omega
    generalize kk k = K at *
    clear e1 e2 e3 h
    go_enter Try.func28, Try.ntmps28
    go_wp2
    refine wp_scope_jumps 0 (fun _ _ => False) (fun _ _ => 0) rfl ?_ ?_
    · go_wp2_with (go_at_call 31; refine HK.out.mono ?_; rintro e w' ⟨rfl, rfl⟩)
      go_step3
      rename_i K hK
      refine hK _ _ ?_
      go_wp2_with fail
      refine HT.out.mono ?_
      rintro e w2 ⟨rfl, hr2, hk2⟩
      have HF := Lib.hid (fail_any base q v B _ _ w2 hr2)
      go_wp2_with (go_at_call 30; refine HF.out.mono ?_; rintro e w' ⟨rfl, rfl⟩)
      simp only [Exit.jump]
      go_ret
      exact ⟨rfl, hr2, hk2⟩
    · intro a' w' hi
      exact absurd hi id
end Go.Proofs.Ytlhplgeohffjeaa
