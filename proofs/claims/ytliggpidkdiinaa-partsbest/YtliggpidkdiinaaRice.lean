/- Contracts of package rice: folded numbers, sizes. -/
import Derived.Test.YtliggpidkdiinaaKit
import Derived.Lib.Zigzag
import Derived.OpenShut
namespace Go.Proofs.Ytliggpidkdiinaa
open Go.RowKit Bx

/-- A number folded; unfolded; k as it is held; whether one is near. -/
def fd (n : Int) : Nat := if 0 ≤ n then (2 * n).toNat else (-(2 * n) - 1).toNat
def uf (u : Nat) : Int := if u % 2 = 0 then ((u / 2 : Nat) : Int) else -((u / 2 : Nat) : Int) - 1
def kk (k : Int) : Nat := (max 0 (min k 30)).toNat
def nr (n : Int) : Bool := decide (-8589934592 ≤ n) && decide (n < 8589934592)

theorem kk_le (k : Int) : kk k ≤ 30 := by unfold kk; omega
theorem fd_lt {n : Int} (h0 : -9223372036854775808 ≤ n) (h1 : n ≤ 9223372036854775807) : fd n < 18446744073709551616 := by
  unfold fd; split <;> omega
theorem fd_near {n : Int} (h : nr n = true) : fd n < 17179869184 := by
  simp [nr] at h
  unfold fd; split <;> omega
theorem uf_fd (n : Int) : uf (fd n) = n := by
  unfold uf fd
  split <;> split <;> omega
theorem fd_uf (u : Nat) : fd (uf u) = u := by
  unfold uf fd
  split <;> split <;> omega

theorem fold_xor (n : Int) (h0 : -9223372036854775808 ≤ n) (h1 : n ≤ 9223372036854775807) :
    bits .xor .u64 (IntKind.u64.wrap (IntKind.u64.wrap n * 2)) (IntKind.u64.wrap (n / 9223372036854775808)) = ((fd n : Nat) : Int) := by
  have e1 : IntKind.u64.wrap (IntKind.u64.wrap n * 2) = (((2 * n) % 18446744073709551616).toNat : Int) := by
    rw [IntKind.wrap_u64, IntKind.wrap_u64]
    omega
  rw [e1]
  by_cases hn : 0 ≤ n
  · have e2 : IntKind.u64.wrap (n / 9223372036854775808) = ((0 : Nat) : Int) := by rw [IntKind.wrap_u64]; omega
    rw [e2, u64_xor_nat _ _ (by omega) (by omega), Nat.xor_zero]
    unfold fd; rw [if_pos hn]; omega
  · have e2 : IntKind.u64.wrap (n / 9223372036854775808) = ((2 ^ 64 - 1 : Nat) : Int) := by rw [IntKind.wrap_u64]; omega
    rw [e2, u64_xor_nat _ _ (by omega) (by omega), Nat.xor_comm, Lib.xor_ones64 _ (by omega)]
    unfold fd; rw [if_neg hn]; omega

set_option maxHeartbeats 400000 in
theorem fold_any (n : Int) (w : World) (h0 : -9223372036854775808 ≤ n) (h1 : n ≤ 9223372036854775807) : Calls Try.prog 54 #[.int .i64 n] w fun e w' => e = .returned (.int .u64 (fd n : Nat)) ∧ w = w' := by
  go_enter Try.func54, Try.ntmps54
  go_wp2
  go_ret
  refine ⟨?_, rfl⟩
  rw [← fold_xor n h0 h1]
  rfl

theorem xor_zero_i64 (x : Nat) (hx : x < 9223372036854775808) : bits .xor .i64 (x : Int) 0 = (x : Int) := by
  show IntKind.i64.wrap ((BitVec.ofInt 64 (x : Int) ^^^ BitVec.ofInt 64 0).toNat : Int) = _
  have h2 : (BitVec.ofInt 64 (x : Int)).toNat = x := by
    rw [BitVec.ofInt_natCast, BitVec.toNat_ofNat]; exact Nat.mod_eq_of_lt (by omega)
  have h1 : (BitVec.ofInt 64 0).toNat = 0 := by decide
  rw [BitVec.toNat_xor, h1, h2, Nat.xor_zero, IntKind.wrap_i64]
  omega
theorem xor_ones_i64 (x : Nat) (hx : x < 9223372036854775808) : bits .xor .i64 (x : Int) (-1) = -(x : Int) - 1 := by
  rw [← Lib.i64_not x hx]
  show IntKind.i64.wrap ((BitVec.ofInt 64 (x : Int) ^^^ BitVec.ofInt 64 (-1)).toNat : Int) = IntKind.i64.wrap ((BitVec.ofInt 64 (-1) ^^^ BitVec.ofInt 64 (x : Int)).toNat : Int)
  rw [BitVec.xor_comm]

theorem unfold_xor (u : Nat) (h : u < 18446744073709551616) : bits .xor .i64 ((u : Int) / 2) (wrap64 (-wrap64 (bits .and .u64 (u : Int) 1))) = uf u := by
  rw [Lib.u64_and1 _ (by omega) (by omega), show (u : Int) / 2 = ((u / 2 : Nat) : Int) by omega]
  unfold uf
  by_cases hu : u % 2 = 0
  · rw [if_pos hu, show wrap64 (-wrap64 ((u : Int) % 2)) = 0 by unfold wrap64; omega, xor_zero_i64 _ (by omega)]
  · rw [if_neg hu, show wrap64 (-wrap64 ((u : Int) % 2)) = -1 by unfold wrap64; omega, xor_ones_i64 _ (by omega)]

set_option maxHeartbeats 400000 in
theorem rheld_any (n : Int) (w : World) : Calls Try.prog 50 #[.int .i64 n] w fun e w' => e = .returned (.int .i64 (kk n : Nat)) ∧ w = w' := by
  have hw : (kk n : Int) = max 0 (min n 30) := by unfold kk; omega
  have HW := Lib.hid hw
  clear hw
  go_enter Try.func50, Try.ntmps50
  go_wp2
  all_goals
    go_ret
    exact ⟨ret_int (by rw [HW.out]; omega), rfl⟩

set_option maxHeartbeats 400000 in
theorem near_any (n : Int) (w : World) : Calls Try.prog 29 #[.int .i64 n] w fun e w' => e = .returned (.bool (nr n)) ∧ w = w' := by
  go_enter Try.func29, Try.ntmps29
  go_wp2
  all_goals
    go_ret
    refine ⟨congrArg (fun b => Ending.returned (Value.bool b)) ?_, rfl⟩
    simp only [nr]
    first | (rw [decide_eq_true (p := -8589934592 ≤ n) (by omega), Bool.true_and]) | (rw [decide_eq_false (p := -8589934592 ≤ n) (by omega), Bool.false_and])

set_option maxHeartbeats 400000 in
theorem higher_any (n : Int) (k : Nat) (w : World) (h : nr n = true) (hk : k ≤ 30) : Calls Try.prog 51 #[.int .i64 n, .int .i64 k] w fun e w' => e = .returned (.int .i64 ((fd n / 2 ^ k : Nat) : Int)) ∧ w = w' := by
  have hb : -8589934592 ≤ n ∧ n < 8589934592 := by simpa [nr] using h
  have hf := fd_near h
  have HF := Lib.hid (fold_any n w (by omega) (by omega))
  have HH := Lib.hid hb
  generalize fd n = u at *
  clear h hb
  go_enter Try.func51, Try.ntmps51
  go_wp2_with (go_at_call 54; refine HF.out.mono ?_; rintro e w' ⟨rfl, rfl⟩)
  go_ret
  refine ⟨ret_int ?_, rfl⟩
  have hd : u / 2 ^ k ≤ u := Nat.div_le_self _ _
  rw [show (u : Int) / 2 ^ k = ((u / 2 ^ k : Nat) : Int) by rw [Int.natCast_ediv, Int.natCast_pow]; rfl]
  generalize u / 2 ^ k = x at *
  unfold wrap64
  omega

/-- How many bits a number has. -/
def sz (n k : Int) : Int := if nr n = true then ((fd n / 2 ^ kk k : Nat) : Int) + 1 + (kk k : Int) else -1

theorem near_bounds {n : Int} (h : nr n = true) : -8589934592 ≤ n ∧ n < 8589934592 := by simpa [nr] using h
theorem high_lt {n : Int} (h : nr n = true) (k : Nat) : fd n / 2 ^ k < 17179869184 := Nat.lt_of_le_of_lt (Nat.div_le_self _ _) (fd_near h)

set_option maxHeartbeats 400000 in
theorem size_any (n k : Int) (w : World) : Calls Try.prog 39 #[.int .i64 n, .int .i64 k] w fun e w' => e = .returned (.int .i64 (sz n k)) ∧ w = w' := by
  by_cases hn : nr n = true
  · have e1 : sz n k = ((fd n / 2 ^ kk k : Nat) : Int) + 1 + (kk k : Int) := by simp [sz, hn]
    have hkl := kk_le k
    have hh := high_lt hn (kk k)
    have HN := Lib.hid (near_any n w)
    rw [hn] at HN
    have HH := Lib.hid (higher_any n (kk k) w hn hkl)
    have HK := Lib.hid (rheld_any k w)
    rw [e1]
    clear e1 hn
    generalize fd n / 2 ^ kk k = x at *
    generalize kk k = y at *
    go_enter Try.func39, Try.ntmps39
    go_wp2_with (first | (go_at_call 29; refine HN.out.mono ?_; rintro e w' ⟨rfl, rfl⟩) | (go_at_call 50; refine HK.out.mono ?_; rintro e w' ⟨rfl, rfl⟩) | (go_at_call 51; refine HH.out.mono ?_; rintro e w' ⟨rfl, rfl⟩))
    go_ret
    exact ⟨rfl, rfl⟩
  · have e1 : sz n k = -1 := by simp [sz, hn]
    have hn' : nr n = false := by simpa using hn
    have HN := Lib.hid (near_any n w)
    rw [hn'] at HN
    rw [e1]
    clear e1 hn hn'
    go_enter Try.func39, Try.ntmps39
    go_wp2_with (go_at_call 29; refine HN.out.mono ?_; rintro e w' ⟨rfl, rfl⟩)
    go_ret
    exact ⟨rfl, rfl⟩
end Go.Proofs.Ytliggpidkdiinaa
