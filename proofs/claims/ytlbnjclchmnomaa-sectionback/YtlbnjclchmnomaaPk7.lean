/- The contract of rice.Take, for any bytes. Sounds in numbers: depths, kinds, samples as bytes. No program. -/
import Derived.Test.YtlbnjclchmnomaaPk6
import Derived.Test.YtlbnjclchmnomaaPk1
import Derived.RowKit

namespace Go.Proofs.Ytlbnjclchmnomaa
open Go.RowKit Bx

/-- A bit; how many bits from a on are 0, of m; and of all that are left. -/
def bt (B : List Nat) (a : Nat) : Nat := be B / 2 ^ (8 * B.length - (a + 1)) % 2
def zrun (B : List Nat) : Nat → Nat → Nat
  | 0, _ => 0
  | m + 1, a => if bt B a = 1 then 0 else zrun B m (a + 1) + 1
def tz (B : List Nat) (a : Nat) : Nat := zrun B (8 * B.length - a) a

theorem zrun_le (B : List Nat) : ∀ m a, zrun B m a ≤ m := by
  intro m
  induction m with
  | zero => intro a; simp [zrun]
  | succ m ih => intro a; simp only [zrun]; have := ih (a + 1); split <;> omega
theorem tz_le (B : List Nat) (a : Nat) : tz B a ≤ 8 * B.length - a := zrun_le B _ a
theorem tz_end (B : List Nat) (a : Nat) (h : 8 * B.length ≤ a) : tz B a = 0 := by unfold tz; rw [show 8 * B.length - a = 0 by omega]; rfl
theorem tz_one (B : List Nat) (a : Nat) (h : a < 8 * B.length) (hb : bt B a = 1) : tz B a = 0 := by
  unfold tz; obtain ⟨m, hm⟩ : ∃ m, 8 * B.length - a = m + 1 := ⟨8 * B.length - a - 1, by omega⟩
  rw [hm]; simp [zrun, hb]
theorem tz_zero (B : List Nat) (a : Nat) (h : a < 8 * B.length) (hb : bt B a ≠ 1) : tz B a = tz B (a + 1) + 1 := by
  unfold tz; obtain ⟨m, hm⟩ : ∃ m, 8 * B.length - a = m + 1 := ⟨8 * B.length - a - 1, by omega⟩
  rw [hm, show 8 * B.length - (a + 1) = m by omega]; simp [zrun, hb]

/-- What Take tells, and where it leaves the reader. -/
def tkv (B : List Nat) (at_ fl k : Nat) : Int := if fl ≠ 0 then 0 else if at_ + tz B at_ + 1 + k ≤ 8 * B.length then uf (tz B at_ * 2 ^ k + be B / 2 ^ (8 * B.length - (at_ + tz B at_ + 1 + k)) % 2 ^ k) else 0
def tka (B : List Nat) (at_ fl k : Nat) : Nat := if fl ≠ 0 then at_ else if at_ + tz B at_ + 1 + k ≤ 8 * B.length then at_ + tz B at_ + 1 + k else if at_ + tz B at_ + 1 ≤ 8 * B.length then at_ + tz B at_ + 1 else at_ + tz B at_
def tkf (B : List Nat) (at_ fl k : Nat) : Nat := if fl ≠ 0 then fl else if at_ + tz B at_ + 1 + k ≤ 8 * B.length then 0 else 2

theorem tk_in {B : List Nat} {at_ k z : Nat} (hz : tz B at_ = z) (h : at_ + z + 1 + k ≤ 8 * B.length) : tkv B at_ 0 k = uf (z * 2 ^ k + be B / 2 ^ (8 * B.length - (at_ + z + 1 + k)) % 2 ^ k) ∧ tka B at_ 0 k = at_ + z + 1 + k ∧ tkf B at_ 0 k = 0 := by
  subst hz; simp [tkv, tka, tkf, h]
theorem tk_mid {B : List Nat} {at_ k z : Nat} (hz : tz B at_ = z) (h : ¬ at_ + z + 1 + k ≤ 8 * B.length) (h2 : at_ + z + 1 ≤ 8 * B.length) : tkv B at_ 0 k = 0 ∧ tka B at_ 0 k = at_ + z + 1 ∧ tkf B at_ 0 k = 2 := by
  subst hz; simp [tkv, tka, tkf, h, h2]
theorem tk_end {B : List Nat} {at_ k z : Nat} (hz : tz B at_ = z) (h2 : ¬ at_ + z + 1 ≤ 8 * B.length) : tkv B at_ 0 k = 0 ∧ tka B at_ 0 k = at_ + z ∧ tkf B at_ 0 k = 2 := by
  have h : ¬ at_ + z + 1 + k ≤ 8 * B.length := by omega
  subst hz; simp [tkv, tka, tkf, h, h2]

def RiceTakeInv (base : Nat) (w : World) (q : Nat) (v : Value) (B : List Nat) (at_ k : Nat) (a : Act) (w' : World) : Prop :=
  a.defers = [] ∧ a.tmps.size = 31 ∧ a.tmps[0]? = some (.pointer (some ⟨q, 0, none⟩)) ∧ a.tmps[1]? = some (.int .i64 (k : Int)) ∧
  ∃ z, at_ + z ≤ 8 * B.length ∧ tz B at_ = tz B (at_ + z) + z ∧ a.tmps[5]? = some (.int .u64 ((z : Nat) : Int)) ∧ RdPost base w q v B (at_ + z) 0 w'

def riceTakeMeasure (n : Nat) (a : Act) : Nat := n - (intOf (a.tmps.getD 5 undef)).toNat

noncomputable def riceTakeRest : Code := behindLabel (Try.f54.body.getD .skip) 0

def RiceTakePost (base : Nat) (w : World) (q : Nat) (v : Value) (B : List Nat) (at_ fl k : Nat) (e : Ending) (w' : World) : Prop :=
  e = .returned (.int .i64 (tkv B at_ fl k)) ∧ RdPost base w q v B (tka B at_ fl k) (tkf B at_ fl k) w'

theorem RdPost.trans {base q : Nat} {w w1 w2 : World} {v : Value} {B : List Nat} {at_ fl : Nat} (hk : Kept (One q) w w1) (h : RdPost base w1 q v B at_ fl w2) : RdPost base w q v B at_ fl w2 :=
  ⟨h.1, hk.trans h.2 (fun _ h => h) (fun _ _ h => h)⟩

theorem bt_rval (B : List Nat) (a : Nat) (h : a < 8 * B.length) : rval B a 0 1 = bt B a ∧ rat B a 0 1 = a + 1 ∧ rfail B a 0 1 = 0 := by
  have hs : short B a 0 1 = false := by simp [short]; omega
  refine ⟨by simp [rval, hs, bt], by simp [rat, hs], by simp [rfail, show ¬ 8 * B.length < a + 1 by omega]⟩
theorem end_rval (B : List Nat) (a k : Nat) (h : 8 * B.length < a + k) : rval B a 0 k = 0 ∧ rat B a 0 k = a ∧ rfail B a 0 k = 2 := by
  have hs : short B a 0 k = true := by simp [short]; omega
  exact ⟨by simp [rval, hs], by simp [rat, hs], by simp [rfail, h]⟩
theorem in_rval (B : List Nat) (a k : Nat) (h : a + k ≤ 8 * B.length) : rval B a 0 k = be B / 2 ^ (8 * B.length - (a + k)) % 2 ^ k ∧ rat B a 0 k = a + k ∧ rfail B a 0 k = 0 := by
  have hs : short B a 0 k = false := by simp [short]; omega
  exact ⟨by simp [rval, hs], by simp [rat, hs], by simp [rfail, show ¬ 8 * B.length < a + k by omega]⟩

set_option maxHeartbeats 400000 in
theorem riceTake_pass (base q : Nat) (v : Value) (B : List Nat) (at_ k : Nat) (w : World) (hk : k ≤ 30) (hl : 8 * B.length < 8589934592)
    (R : Ending → World → Prop) (hR : ∀ e w', RiceTakePost base w q v B at_ 0 k e w' → R e w')
    (a : Act) (w' : World) (hi : RiceTakeInv base w q v B at_ k a w') :
    riceTakeRest.wp Try.prog (Exit.jump 0 (fun a' w'' => RiceTakeInv base w q v B at_ k a' w'' ∧ riceTakeMeasure (8 * B.length + 1) a' < riceTakeMeasure (8 * B.length + 1) a) (bodyPost Try.prog Try.f54 R)) a w' := by
  have HRet := Lib.hid hR
  clear hR
  obtain ⟨tm, df⟩ := a
  obtain ⟨rfl, hs, h0, h1, z, hzl, hz, h5, hrd, hkp⟩ := hi
  simp only at hs h0 h1 h5
  obtain ⟨f, hf, hg⟩ := fr_open hs
  have e0 := hg _ _ h0
  have e1 := hg _ _ h1
  have e5 := hg _ _ h5
  simp only [List.range, List.range.loop, List.map] at hf
  rw [e0, e1, e5] at hf
  clear e0 e1 e5 hg hs h0 h1 h5
  subst hf
  conv => arg 2; whnf
  have HT := take_any base q v B (at_ + z) 0 1 w' hrd (by omega)
  rw [show wid 1 = 1 by decide] at HT
  by_cases he : at_ + z < 8 * B.length
  · obtain ⟨x1, x2, x3⟩ := bt_rval B (at_ + z) he
    rw [x1, x2, x3] at HT
    have HT := Lib.hid HT
    clear x1 x2 x3
    by_cases hb : bt B (at_ + z) = 1
    · rw [hb] at HT
      have t0 := tz_one B _ he hb
      rw [t0, Nat.zero_add] at hz
      have HTZ := Lib.hid hz
      have HTK := take_any base q v B (at_ + z + 1) 0 (k : Int)
      rw [show wid (k : Int) = k by unfold wid; omega] at HTK
      clear hb t0 hz hrd
      by_cases hke : at_ + z + 1 + k ≤ 8 * B.length
      · obtain ⟨x1, x2, x3⟩ := in_rval B (at_ + z + 1) k hke
        rw [x1, x2, x3] at HTK
        have hlow : be B / 2 ^ (8 * B.length - (at_ + z + 1 + k)) % 2 ^ k < 2 ^ k := Nat.mod_lt _ (Nat.two_pow_pos k)
        have fin : ∀ w2, RdPost base w q v B (at_ + z + 1 + k) 0 w2 → R (.returned (.int .i64 (uf (z * 2 ^ k + be B / 2 ^ (8 * B.length - (at_ + z + 1 + k)) % 2 ^ k)))) w2 := by
          intro w2 h2
          obtain ⟨y1, y2, y3⟩ := tk_in HTZ.out hke
          exact HRet.out _ _ ⟨by rw [y1], by rw [y2, y3]; exact h2⟩
        generalize be B / 2 ^ (8 * B.length - (at_ + z + 1 + k)) % 2 ^ k = low at *
        have hp30 : 2 ^ k ≤ 2 ^ 30 := Nat.pow_le_pow_right (by decide) hk
        have hzk : z * 2 ^ k ≤ 8589934592 * 2 ^ 30 := Nat.mul_le_mul (by omega) hp30
        obtain ⟨m, hm⟩ : ∃ m, z * 2 ^ k = m := ⟨_, rfl⟩
        obtain ⟨y, hy⟩ : ∃ y, m + low = y := ⟨_, rfl⟩
        have w3' : IntKind.u64.wrap ((z : Int) * 2 ^ k) = (m : Int) := by
          rw [show ((z : Int) * 2 ^ k) = ((m : Nat) : Int) by rw [← hm, Int.natCast_mul, Int.natCast_pow]; rfl, IntKind.wrap_u64]; omega
        have w4' : (z : Int) * 2 ^ k = (m : Int) := by rw [← hm, Int.natCast_mul, Int.natCast_pow]; rfl
        have w4 : bits .or .u64 (m : Int) (low : Int) = (y : Int) := by
          rw [u64_or_nat m low (by omega) (by omega), or_add m low k (by rw [← hm]; exact Nat.mul_mod_left _ _) hlow, hy]
        have HU := Lib.hid (unfold_any y)
        have hyb : y < 18446744073709551616 := by omega
        rw [hm, hy] at fin
        have FIN := Lib.hid fin
        have HTK := Lib.hid HTK
        have W4' := Lib.hid w4'
        clear fin hm hy hlow hp30 hzk x1 x2 x3 w4' HTZ HRet
        go_wp2_with fail
        refine HT.out.mono ?_
        rintro e w2 ⟨rfl, hr2, hk2⟩
        have HF := Lib.hid (fail_any base q v B _ _ w2 hr2)
        go_wp2_with (go_at_call 53; refine HF.out.mono ?_; rintro e w' ⟨rfl, rfl⟩)
        refine (HTK.out w2 hr2 (by omega)).mono ?_
        rintro e w3 ⟨rfl, hr3, hk3⟩
        have HF3 := Lib.hid (fail_any base q v B _ _ w3 hr3)
        have K3 := Lib.hid (RdPost.trans hkp (RdPost.trans hk2 ⟨hr3, hk3⟩))
        clear hr2 hr3 hk2 hk3 HF HTK HT
        go_wp2_with (first | (go_at_call 53; refine HF3.out.mono ?_; rintro e w' ⟨rfl, rfl⟩) | (go_at_call 67; refine (HU.out _ hyb).mono ?_; rintro e w' ⟨rfl, rfl⟩))
        exact FIN.out _ K3.out
      · obtain ⟨x1, x2, x3⟩ := end_rval B (at_ + z + 1) k (by omega)
        rw [x1, x2, x3] at HTK
        have fin : ∀ w2, RdPost base w q v B (at_ + z + 1) 2 w2 → R (.returned (.int .i64 0)) w2 := by
          intro w2 h2
          obtain ⟨y1, y2, y3⟩ := tk_mid HTZ.out hke (by omega)
          exact HRet.out _ _ ⟨by rw [y1], by rw [y2, y3]; exact h2⟩
        have FIN := Lib.hid fin
        have HTK := Lib.hid HTK
        clear fin x1 x2 x3 HTZ HRet
        go_wp2_with fail
        refine HT.out.mono ?_
        rintro e w2 ⟨rfl, hr2, hk2⟩
        have HF := Lib.hid (fail_any base q v B _ _ w2 hr2)
        go_wp2_with (go_at_call 53; refine HF.out.mono ?_; rintro e w' ⟨rfl, rfl⟩)
        refine (HTK.out w2 hr2 (by omega)).mono ?_
        rintro e w3 ⟨rfl, hr3, hk3⟩
        have HF3 := Lib.hid (fail_any base q v B _ _ w3 hr3)
        have K3 := Lib.hid (RdPost.trans hkp (RdPost.trans hk2 ⟨hr3, hk3⟩))
        clear hr2 hr3 hk2 hk3 HF HTK HT
        go_wp2_with (go_at_call 53; refine HF3.out.mono ?_; rintro e w' ⟨rfl, rfl⟩)
        exact FIN.out _ K3.out
    · have t0 := tz_zero B _ he hb
      rw [t0] at hz
      have hb0 : bt B (at_ + z) = 0 := by have : bt B (at_ + z) < 2 := Nat.mod_lt _ (by decide); omega
      rw [hb0] at HT
      have HTZ := Lib.hid hz
      clear hb hb0 t0 hz hrd HRet
      go_wp2_with fail
      refine HT.out.mono ?_
      rintro e w2 ⟨rfl, hr2, hk2⟩
      have HF := Lib.hid (fail_any base q v B _ _ w2 hr2)
      have K2 := Lib.hid (RdPost.trans hkp ⟨hr2, hk2⟩)
      clear hr2 hk2 hkp HT
      go_wp2_with (go_at_call 53; refine HF.out.mono ?_; rintro e w' ⟨rfl, rfl⟩)
      refine wp_goto ⟨rfl, ⟨rfl, rfl, rfl, rfl, z + 1, by omega, ?_, ?_, ?_⟩, ?_⟩
      · show tz B at_ = tz B (at_ + z + 1) + (z + 1)
        have := HTZ.out; omega
      · rfl
      · rw [← Nat.add_assoc]; exact K2.out
      · simp [riceTakeMeasure, intOf]
        omega
  · obtain ⟨x1, x2, x3⟩ := end_rval B (at_ + z) 1 (by omega)
    rw [x1, x2, x3] at HT
    have HT := Lib.hid HT
    rw [tz_end B (at_ + z) (by omega), Nat.zero_add] at hz
    have fin : ∀ w2, RdPost base w q v B (at_ + z) 2 w2 → R (.returned (.int .i64 0)) w2 := by
      intro w2 h2
      obtain ⟨y1, y2, y3⟩ := tk_end (k := k) hz (by omega)
      exact HRet.out _ _ ⟨by rw [y1], by rw [y2, y3]; exact h2⟩
    have FIN := Lib.hid fin
    clear fin x1 x2 x3 hz hrd HRet
    go_wp2_with fail
    refine HT.out.mono ?_
    rintro e w2 ⟨rfl, hr2, hk2⟩
    have HF := Lib.hid (fail_any base q v B _ _ w2 hr2)
    have K2 := Lib.hid (RdPost.trans hkp ⟨hr2, hk2⟩)
    clear hr2 hk2 hkp HT
    go_wp2_with (go_at_call 53; refine HF.out.mono ?_; rintro e w' ⟨rfl, rfl⟩)
    exact FIN.out _ K2.out

set_option maxHeartbeats 400000 in
theorem riceTake_any (base q : Nat) (v : Value) (B : List Nat) (at_ fl : Nat) (k : Int) (w : World) (h : Rd base w q v B at_ fl) (hl : 8 * B.length < 8589934592) :
    Calls Try.prog 54 #[.pointer (some ⟨q, 0, none⟩), .int .i64 k] w (RiceTakePost base w q v B at_ fl (kk k)) := by
  have hkl := kk_le k
  have HK := Lib.hid (rheld_any k w)
  have ha := h.2.2.2.2.2
  by_cases hf : fl = 0
  · subst hf
    have hpass := Lib.hid (riceTake_pass base q v B at_ (kk k) w hkl hl (RiceTakePost base w q v B at_ 0 (kk k)) (fun _ _ h => h))
    have HW := Lib.hid h
    generalize kk k = K at *
    clear h
    go_enter Try.func54, Try.ntmps54
    go_wp2
    refine wp_scope_jumps 0 (RiceTakeInv base w q v B at_ K) (fun a' _ => riceTakeMeasure (8 * B.length + 1) a') rfl ?_ ?_
    · go_wp2_with (go_at_call 63; refine HK.out.mono ?_; rintro e w' ⟨rfl, rfl⟩)
      go_step3
      rename_i K hK
      refine hK _ _ ?_
      refine wp_mono (hpass.out _ _ ⟨rfl, rfl, rfl, rfl, 0, ha, rfl, rfl, HW.out, Kept.refl _ _⟩) ?_
      intro e a' w' h
      cases e with
      | goto l => exact ⟨h.1, h.2.1⟩
      | normal => exact h
      | exit id => exact h
      | ret => exact h
      | panic ch => exact h
      | outgrown => exact h
    · intro a' w' hi
      refine wp_seq (wp_skip ?_)
      exact hpass.out a' w' hi
  · have e1 : tkv B at_ fl (kk k) = 0 := by rw [tkv, if_pos hf]
    have e2 : tka B at_ fl (kk k) = at_ := by rw [tka, if_pos hf]
    have e3 : tkf B at_ fl (kk k) = fl := by rw [tkf, if_pos hf]
    unfold RiceTakePost
    rw [e1, e2, e3]
    have HT := take_any base q v B at_ fl 1 w h (by omega)
    rw [show wid 1 = 1 by decide, show rval B at_ fl 1 = 0 by simp [rval, short, hf], show rat B at_ fl 1 = at_ by simp [rat, short, hf], show rfail B at_ fl 1 = fl by simp [rfail, hf]] at HT
    have HT := Lib.hid HT
    have hne : ((fl : Int) != 0) = true := by simp; omega
    generalize kk k = K at *
    clear e1 e2 e3 h
    go_enter Try.func54, Try.ntmps54
    go_wp2
    refine wp_scope_jumps 0 (fun _ _ => False) (fun _ _ => 0) rfl ?_ ?_
    · go_wp2_with (go_at_call 63; refine HK.out.mono ?_; rintro e w' ⟨rfl, rfl⟩)
      go_step3
      rename_i K hK
      refine hK _ _ ?_
      go_wp2_with fail
      refine HT.out.mono ?_
      rintro e w2 ⟨rfl, hr2, hk2⟩
      have HF := Lib.hid (fail_any base q v B _ _ w2 hr2)
      go_wp2_with (go_at_call 53; refine HF.out.mono ?_; rintro e w' ⟨rfl, rfl⟩)
      simp only [Exit.jump]
      go_ret
      exact ⟨rfl, hr2, hk2⟩
    · intro a' w' hi
      exact absurd hi id
end Go.Proofs.Ytlbnjclchmnomaa

namespace Go.Proofs.Ytlbnjclchmnomaa

/-- In a depth. -/
def inD (n d : Int) : Bool := decide (1 ≤ d) && decide (d ≤ 62) && decide (-(2 : Int) ^ (d.toNat - 1) ≤ n) && decide (n < (2 : Int) ^ (d.toNat - 1))

/-- What is wrong with the numbers of a sound. -/
def kindE (r d c : Int) : Int := if c < 1 ∨ 8 < c then 12 else if d < 4 ∨ 32 < d then 10 else if r < 1 ∨ 1048575 < r then 11 else 0

/-- A sample's bytes: how many. -/
def eachN (d : Int) : Nat := ((min (max d 4) 32 + 7) / 8).toNat

theorem eachN_lo (d : Int) : 1 ≤ eachN d := by unfold eachN; omega
theorem eachN_hi (d : Int) : eachN d ≤ 4 := by unfold eachN; omega
theorem eachN_val (d : Int) (h1 : 4 ≤ d) (h2 : d ≤ 32) : eachN d = ((d + 7) / 8).toNat := by unfold eachN; rw [Int.max_eq_left h1, Int.min_eq_left h2]

/-- How many samples the first channel has. -/
def manyN (L : List (List Int)) : Nat := (L.getD 0 []).length

theorem manyN_nil : manyN [] = 0 := rfl

def evenB (L : List (List Int)) : Bool := L.all (fun c => decide (c.length = manyN L))
def rangeB (L : List (List Int)) (d : Int) : Bool := L.all (fun c => c.all (fun n => inD n d))

/-- What is wrong with a sound. -/
def chkE (r d : Int) (L : List (List Int)) : Int :=
  if kindE r d (L.length : Int) = 0 then if evenB L = true then if rangeB L d = true then 0 else 6 else 13 else kindE r d (L.length : Int)

/-- A sample's bytes, the lowest first. -/
def sb (n : Int) : Nat → List Nat
  | 0 => []
  | e + 1 => (n % 256).toNat :: sb (n / 256) e

theorem sb_length (n : Int) (e : Nat) : (sb n e).length = e := by
  induction e generalizing n with
  | zero => rfl
  | succ e ih => simp [sb, ih]

theorem sb_lt (n : Int) (e : Nat) : ∀ b ∈ sb n e, b < 256 := by
  induction e generalizing n with
  | zero => simp [sb]
  | succ e ih =>
    intro b hb
    simp only [sb, List.mem_cons] at hb
    rcases hb with rfl | hb
    · omega
    · exact ih _ b hb

theorem sb_snoc (n : Int) (e : Nat) : sb n (e + 1) = sb n e ++ [(n / (256 : Int) ^ e % 256).toNat] := by
  induction e generalizing n with
  | zero => simp [sb]
  | succ e ih =>
    rw [sb, ih (n / 256)]
    simp only [sb, List.cons_append, List.cons.injEq, true_and, List.append_cancel_left_eq, and_true]
    rw [Int.ediv_ediv_of_nonneg (by omega), Int.pow_succ, Int.mul_comm ((256 : Int) ^ e)]

/-- The number of bytes, the lowest first. -/
def le : List Nat → Nat
  | [] => 0
  | b :: B => b + 256 * le B

theorem le_lt : ∀ (B : List Nat), (∀ b ∈ B, b < 256) → le B < 256 ^ B.length
  | [], _ => by simp [le]
  | b :: B, h => by
    have h1 := le_lt B (fun x hx => h x (List.mem_cons_of_mem _ hx))
    have h2 := h b (by simp)
    simp only [le, List.length_cons, Nat.pow_succ]
    omega

theorem le_append (A B : List Nat) : le (A ++ B) = le A + 256 ^ A.length * le B := by
  induction A with
  | nil => simp [le]
  | cons a A ih => simp only [List.cons_append, le, ih, List.length_cons, Nat.pow_succ]; rw [Nat.mul_add, Nat.add_assoc]; congr 2; rw [← Nat.mul_assoc, Nat.mul_comm 256]

theorem mod_mul (n P : Int) (hP : 0 < P) : n % (256 * P) = n % 256 + 256 * (n / 256 % P) := by
  have h1 := Int.mul_ediv_add_emod n 256
  have h2 := Int.mul_ediv_add_emod (n / 256) P
  have a1 := Int.emod_nonneg n (show (256 : Int) ≠ 0 by omega)
  have a2 := Int.emod_lt_of_pos n (show (0 : Int) < 256 by omega)
  have b1 := Int.emod_nonneg (n / 256) (show P ≠ 0 by omega)
  have b2 := Int.emod_lt_of_pos (n / 256) hP
  generalize n / 256 / P = q' at *
  generalize n / 256 % P = s at *
  have e : n = (n % 256 + 256 * s) + 256 * P * q' := by rw [Int.mul_assoc]; omega
  have e2 : n % (256 * P) = ((n % 256 + 256 * s) + 256 * P * q') % (256 * P) := by rw [← e]
  rw [e2, Int.add_mul_emod_self_left, Int.emod_eq_of_lt (by omega) (by omega)]

theorem le_sb (n : Int) (e : Nat) : (le (sb n e) : Int) = n % 256 ^ e := by
  induction e generalizing n with
  | zero => simp [sb, le, Int.emod_one]
  | succ e ih =>
    simp only [sb, le]
    have h1 := ih (n / 256)
    have h2 : 0 ≤ n % 256 := Int.emod_nonneg _ (by omega)
    rw [Int.natCast_add, Int.natCast_mul, h1, Int.toNat_of_nonneg h2]
    have h3 : (256 : Int) ^ (e + 1) = 256 * 256 ^ e := by rw [Int.pow_succ, Int.mul_comm]
    rw [h3]
    have hp : (0 : Int) < 256 ^ e := Int.pow_pos (by omega)
    rw [mod_mul n (256 ^ e) hp]
    rfl

theorem sb_le : ∀ (B : List Nat), (∀ b ∈ B, b < 256) → ∀ (z : Int), sb ((le B : Int) + z * 256 ^ B.length) B.length = B
  | [], _, _ => rfl
  | b :: B, h, z => by
    have h2 := h b (by simp)
    have h1 := sb_le B (fun x hx => h x (List.mem_cons_of_mem _ hx)) z
    simp only [le, List.length_cons, sb]
    have e1 : (((b + 256 * le B : Nat) : Int) + z * 256 ^ (B.length + 1)) = (b : Int) + 256 * ((le B : Int) + z * 256 ^ B.length) := by
      rw [Int.pow_succ, Int.natCast_add, Int.natCast_mul, Int.mul_add, ← Int.mul_assoc, Int.mul_comm 256 (z * _)]
      simp; omega
    rw [e1]
    have e2 : ((b : Int) + 256 * ((le B : Int) + z * 256 ^ B.length)) % 256 = b := by omega
    have e3 : ((b : Int) + 256 * ((le B : Int) + z * 256 ^ B.length)) / 256 = (le B : Int) + z * 256 ^ B.length := by omega
    rw [e2, e3, h1]
    simp

/-- The number that a sample's bytes tell. -/
def snum (B : List Nat) : Int := (le B : Int) - (if 128 ≤ B.getD (B.length - 1) 0 then (256 : Int) ^ B.length else 0)

theorem sb_snum (B : List Nat) (h : ∀ b ∈ B, b < 256) : sb (snum B) B.length = B := by
  unfold snum
  split
  · have := sb_le B h (-1)
    rwa [Int.neg_mul, Int.one_mul] at this
  · have := sb_le B h 0
    rwa [Int.zero_mul, Int.add_zero] at this

theorem snum_snoc (B : List Nat) (b : Nat) : snum (B ++ [b]) = (le B : Int) + (256 : Int) ^ B.length * ((b : Int) - (if 128 ≤ b then 256 else 0)) := by
  unfold snum
  have e : (B ++ [b]).getD ((B ++ [b]).length - 1) 0 = b := by simp
  rw [e, le_append]
  simp only [le, List.length_append, List.length_cons, List.length_nil, Nat.zero_add, Nat.mul_zero, Nat.add_zero, Int.natCast_add, Int.natCast_mul, Int.natCast_pow]
  split
  · rw [Int.pow_succ, Int.mul_sub]; simp; omega
  · simp

theorem top_of (n : Int) (e : Nat) (h1 : -((256 : Int) ^ e * 128) ≤ n) (h2 : n < (256 : Int) ^ e * 128) : snum (sb n (e + 1)) = n := by
  rw [sb_snoc, snum_snoc, sb_length, le_sb]
  have hp : (0 : Int) < 256 ^ e := Int.pow_pos (by omega)
  have hd := Int.mul_ediv_add_emod n (256 ^ e)
  have hm1 := Int.emod_nonneg n (show (256 : Int) ^ e ≠ 0 by omega)
  have hm2 := Int.emod_lt_of_pos n hp
  have hq1 : -128 ≤ n / 256 ^ e := by rw [Int.le_ediv_iff_mul_le hp]; rw [Int.neg_mul, Int.mul_comm]; exact h1
  have hq2 : n / 256 ^ e < 128 := by rw [Int.ediv_lt_iff_lt_mul hp]; rw [Int.mul_comm]; exact h2
  generalize n / 256 ^ e = q at *
  have hq : ((q % 256).toNat : Int) - (if 128 ≤ (q % 256).toNat then 256 else 0) = q := by
    split <;> omega
  rw [hq]
  omega

theorem pow_256 (e : Nat) : (256 : Int) ^ e = 2 ^ (8 * e) := by rw [Int.pow_mul]; rfl

theorem snum_sb (n d : Int) (h1 : 4 ≤ d) (h2 : d ≤ 32) (h : inD n d = true) : snum (sb n (eachN d)) = n := by
  simp only [inD, Bool.and_eq_true, decide_eq_true_eq] at h
  obtain ⟨⟨⟨_, _⟩, h3⟩, h4⟩ := h
  have he := eachN_lo d
  obtain ⟨e, he'⟩ : ∃ e, eachN d = e + 1 := ⟨eachN d - 1, by omega⟩
  rw [he']
  have hv := eachN_val d h1 h2
  have hle : d.toNat - 1 ≤ 8 * e + 7 := by omega
  have hp : (2 : Int) ^ (d.toNat - 1) ≤ 2 ^ (8 * e + 7) := by
    have := Nat.pow_le_pow_right (show 0 < 2 by omega) hle
    exact_mod_cast this
  have hq : (256 : Int) ^ e * 128 = 2 ^ (8 * e + 7) := by rw [pow_256, Int.pow_add]; rfl
  exact top_of n e (by rw [hq]; omega) (by rw [hq]; omega)

end Go.Proofs.Ytlbnjclchmnomaa
