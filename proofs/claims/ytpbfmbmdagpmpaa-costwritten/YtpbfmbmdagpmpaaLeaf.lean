/- Contracts of the small functions of package bits: a width as it is held, how many bits are missing to a byte, the lowest bits of a byte. -/
import Derived.Test.YtpbfmbmdagpmpaaBools
import Derived.Test.YtpbfmbmdagpmpaaChecked
import Derived.Test.YtpbfmbmdagpmpaaMath
import Derived.Test.YtpbfmbmdagpmpaaKit
import Derived.WalkKit
import Derived.WalkLawsBesides
import Derived.WalkSpells
import Derived.PlainAid
import Derived.Lib.Hide
namespace Go.Proofs.Ytpbfmbmdagpmpaa
open Go.RowKit Bx

theorem and7_neg (c : Nat) (h : c < 4611686018427387904) : bits .and .i64 (-(c : Int)) 7 = (((8 - c % 8) % 8 : Nat) : Int) := by
  have e1 : ((BitVec.ofInt 64 (-(c : Int))) &&& (BitVec.ofInt 64 7)).toNat = (8 - c % 8) % 8 := by
    rw [BitVec.toNat_and, BitVec.toNat_ofInt, BitVec.toNat_ofInt]
    have e2 : ((7 : Int) % ((2 ^ 64 : Nat) : Int)).toNat = 2 ^ 3 - 1 := by decide
    rw [e2, Nat.and_two_pow_sub_one_eq_mod]
    omega
  show IntKind.i64.wrap (((BitVec.ofInt 64 (-(c : Int)) &&& BitVec.ofInt 64 7).toNat : Nat) : Int) = _
  rw [e1, IntKind.wrap_i64]
  omega

theorem and_low (b n : Nat) (hb : b < 256) (h1 : 1 ≤ n) (h2 : n ≤ 8) : bits .and .u8 (b : Int) (255 / 2 ^ (8 - n)) = ((b % 2 ^ n : Nat) : Int) := by
  have e1 : (255 : Int) / 2 ^ (8 - n) = ((2 ^ n - 1 : Nat) : Int) := by
    have : n = 1 ∨ n = 2 ∨ n = 3 ∨ n = 4 ∨ n = 5 ∨ n = 6 ∨ n = 7 ∨ n = 8 := by omega
    rcases this with rfl | rfl | rfl | rfl | rfl | rfl | rfl | rfl <;> decide
  have e2 : 2 ^ n ≤ 2 ^ 8 := Nat.pow_le_pow_right (by decide) h2
  rw [e1, u8_and_nat b (2 ^ n - 1) hb (by omega), Nat.and_two_pow_sub_one_eq_mod]

set_option maxHeartbeats 400000 in
theorem held_any (n : Int) (w : World) : Calls Try.prog 38 #[.int .i64 n] w fun e w' => e = .returned (.int .i64 (wid n : Nat)) ∧ w = w' := by
  have hw : (wid n : Int) = max 0 (min n 64) := by unfold wid; omega
  have HW := Lib.hid hw
  clear hw
  go_enter Try.func38, Try.ntmps38
  go_wp2
  all_goals
    go_ret
    exact ⟨ret_int (by rw [HW.out]; omega), rfl⟩

set_option maxHeartbeats 400000 in
theorem toByte_any (c : Nat) (w : World) (h1 : c < 4611686018427387904) : Calls Try.prog 39 #[.int .i64 (c : Int)] w fun e w' => e = .returned (.int .i64 (((8 - c % 8) % 8 : Nat) : Int)) ∧ w = w' := by
  go_enter Try.func39, Try.ntmps39
  go_wp2
  go_ret
  refine ⟨?_, rfl⟩
  rw [← and7_neg c h1]
  rfl

set_option maxHeartbeats 400000 in
theorem lowest_any (b n : Nat) (w : World) (h1 : b < 256) (h2 : 1 ≤ n) (h3 : n ≤ 8) : Calls Try.prog 40 #[.int .u8 (b : Int), .int .i64 (n : Int)] w fun e w' => e = .returned (.int .u8 ((b % 2 ^ n : Nat) : Int)) ∧ w = w' := by
  go_enter Try.func40, Try.ntmps40
  go_wp2
  go_ret
  refine ⟨?_, rfl⟩
  rw [← and_low b n h1 h2 h3]
  rfl
end Go.Proofs.Ytpbfmbmdagpmpaa
