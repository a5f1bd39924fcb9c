/- Contracts of package digest: what is mixed, what is turned; laws of words. -/
import Derived.Test.YtfcidddpoofjgaaDoorKit
import Derived.Test.YtfcidddpoofjgaaDoorMd
namespace Go.Proofs.YtfcidddpoofjgaaDoor
open Go.RowKit Bx

theorem of32 (a : Nat) (h : a < 4294967296) : (BitVec.ofInt 32 (a : Int)).toNat = a := by
  rw [BitVec.ofInt_natCast, BitVec.toNat_ofNat]; exact Nat.mod_eq_of_lt (by omega)

theorem u32_and_nat (a b : Nat) (ha : a < 4294967296) (hb : b < 4294967296) : bits .and .u32 (a : Int) (b : Int) = ((a &&& b : Nat) : Int) := by
  have hx : a &&& b < 2 ^ 32 := Nat.and_lt_two_pow _ (by omega)
  show IntKind.u32.wrap ((BitVec.ofInt 32 (a : Int) &&& BitVec.ofInt 32 (b : Int)).toNat : Int) = _
  rw [BitVec.toNat_and, of32 a ha, of32 b hb, IntKind.wrap_u32]
  omega
theorem u32_or_nat (a b : Nat) (ha : a < 4294967296) (hb : b < 4294967296) : bits .or .u32 (a : Int) (b : Int) = ((a ||| b : Nat) : Int) := by
  have hx : a ||| b < 2 ^ 32 := Nat.or_lt_two_pow (by omega) (by omega)
  show IntKind.u32.wrap ((BitVec.ofInt 32 (a : Int) ||| BitVec.ofInt 32 (b : Int)).toNat : Int) = _
  rw [BitVec.toNat_or, of32 a ha, of32 b hb, IntKind.wrap_u32]
  omega
theorem u32_xor_nat (a b : Nat) (ha : a < 4294967296) (hb : b < 4294967296) : bits .xor .u32 (a : Int) (b : Int) = ((a ^^^ b : Nat) : Int) := by
  have hx : a ^^^ b < 2 ^ 32 := Nat.xor_lt_two_pow (by omega) (by omega)
  show IntKind.u32.wrap ((BitVec.ofInt 32 (a : Int) ^^^ BitVec.ofInt 32 (b : Int)).toNat : Int) = _
  rw [BitVec.toNat_xor, of32 a ha, of32 b hb, IntKind.wrap_u32]
  omega

theorem not32 (b : Nat) (hb : b < 4294967296) : (4294967295 ^^^ b) < 4294967296 := Nat.xor_lt_two_pow (n := 32) (by decide) (by omega)
theorem u32_not (b : Nat) (hb : b < 4294967296) : bits .xor .u32 (if IntKind.u32.signed = true then -1 else IntKind.u32.max) (b : Int) = ((4294967295 ^^^ b : Nat) : Int) := by
  have := u32_xor_nat 4294967295 b (by decide) hb
  exact this

theorem mix0_any (b c d : Nat) (w : World) (hb : b < 4294967296) (hc : c < 4294967296) (hd : d < 4294967296) :
    Calls Tryd.prog 27 #[.int .u32 (b : Int), .int .u32 (c : Int), .int .u32 (d : Int)] w fun e w' => e = .returned (.int .u32 ((Md.mix 0 b c d : Nat) : Int)) ∧ w = w' := by
  have H1 := Lib.hid (u32_and_nat b c hb hc)
  have H2 := Lib.hid (u32_and_nat (4294967295 ^^^ b) d (not32 b hb) hd)
  have H3 := Lib.hid (u32_or_nat (b &&& c) ((4294967295 ^^^ b) &&& d) (Nat.and_lt_two_pow (n := 32) _ hc) (Nat.and_lt_two_pow (n := 32) _ hd))
  have E0 := Lib.hid (u32_not b hb)
  go_enter Tryd.func27, Tryd.ntmps27
  go_wp2
  go_ret
  refine ⟨ret_int ?_, rfl⟩
  have e := E0.out
  simp only [IntKind.signed, Bool.false_eq_true, if_false] at e
  rw [e, H1.out, H2.out, H3.out]
  rfl

theorem mix1_any (b c d : Nat) (w : World) (hb : b < 4294967296) (hc : c < 4294967296) (hd : d < 4294967296) :
    Calls Tryd.prog 28 #[.int .u32 (b : Int), .int .u32 (c : Int), .int .u32 (d : Int)] w fun e w' => e = .returned (.int .u32 ((Md.mix 1 b c d : Nat) : Int)) ∧ w = w' := by
  have H1 := Lib.hid (u32_and_nat d b hd hb)
  have H2 := Lib.hid (u32_and_nat (4294967295 ^^^ d) c (not32 d hd) hc)
  have H3 := Lib.hid (u32_or_nat (d &&& b) ((4294967295 ^^^ d) &&& c) (Nat.and_lt_two_pow (n := 32) _ hb) (Nat.and_lt_two_pow (n := 32) _ hc))
  have E0 := Lib.hid (u32_not d hd)
  go_enter Tryd.func28, Tryd.ntmps28
  go_wp2
  go_ret
  refine ⟨ret_int ?_, rfl⟩
  have e := E0.out
  simp only [IntKind.signed, Bool.false_eq_true, if_false] at e
  rw [e, H1.out, H2.out, H3.out]
  rfl

theorem mix2_any (b c d : Nat) (w : World) (hb : b < 4294967296) (hc : c < 4294967296) (hd : d < 4294967296) :
    Calls Tryd.prog 29 #[.int .u32 (b : Int), .int .u32 (c : Int), .int .u32 (d : Int)] w fun e w' => e = .returned (.int .u32 ((Md.mix 2 b c d : Nat) : Int)) ∧ w = w' := by
  have H1 := Lib.hid (u32_xor_nat b c hb hc)
  have H2 := Lib.hid (u32_xor_nat (b ^^^ c) d (Nat.xor_lt_two_pow (n := 32) hb hc) hd)
  go_enter Tryd.func29, Tryd.ntmps29
  go_wp2
  go_ret
  refine ⟨ret_int ?_, rfl⟩
  rw [H1.out, H2.out]
  rfl

theorem mix3_any (b c d : Nat) (w : World) (hb : b < 4294967296) (hc : c < 4294967296) (hd : d < 4294967296) :
    Calls Tryd.prog 30 #[.int .u32 (b : Int), .int .u32 (c : Int), .int .u32 (d : Int)] w fun e w' => e = .returned (.int .u32 ((Md.mix 3 b c d : Nat) : Int)) ∧ w = w' := by
  have H1 := Lib.hid (u32_or_nat b (4294967295 ^^^ d) hb (not32 d hd))
  have H2 := Lib.hid (u32_xor_nat c (b ||| (4294967295 ^^^ d)) hc (Nat.or_lt_two_pow (n := 32) hb (not32 d hd)))
  have E0 := Lib.hid (u32_not d hd)
  go_enter Tryd.func30, Tryd.ntmps30
  go_wp2
  go_ret
  refine ⟨ret_int ?_, rfl⟩
  have e := E0.out
  simp only [IntKind.signed, Bool.false_eq_true, if_false] at e
  rw [e, H1.out, H2.out]
  rfl

theorem rot_or (x s : Nat) (hx : x < 4294967296) (hs : s ≤ 32) : bits .or .u32 ((x * 2 ^ s % 4294967296 : Nat) : Int) ((x / 2 ^ (32 - s) : Nat) : Int) = ((Md.rot x s : Nat) : Int) := by
  have h1 : x / 2 ^ (32 - s) < 4294967296 := Nat.lt_of_le_of_lt (Nat.div_le_self _ _) hx
  have e : (4294967296 : Nat) = 2 ^ (32 - s) * 2 ^ s := by rw [← Nat.pow_add, show 32 - s + s = 32 by omega]
  rw [u32_or_nat _ _ (Nat.mod_lt _ (by decide)) h1, or_add _ _ s ?_ ?_]
  · rfl
  · rw [e, Nat.mul_mod_mul_right]; exact Nat.mul_mod_left _ _
  · rw [Nat.div_lt_iff_lt_mul (Nat.two_pow_pos _), Nat.mul_comm, ← e]; exact hx

theorem rotl_any (x s : Nat) (w : World) (hx : x < 4294967296) (hs0 : 0 < s) (hs : s < 32) :
    Calls Tryd.prog 26 #[.int .u32 (x : Int), .int .i64 (s : Int)] w fun e w' => e = .returned (.int .u32 ((Md.rot x s : Nat) : Int)) ∧ w = w' := by
  have e1 : bits .and .u64 (s : Int) 31 = (s : Int) := by
    have := bits_and_u64_nat s 31 (by omega) (by decide)
    rw [show (31 : Int) = ((31 : Nat) : Int) from rfl, this]
    have h31 : s &&& 31 = s % 32 := Nat.and_two_pow_sub_one_eq_mod s 5
    rw [h31, Nat.mod_eq_of_lt hs]
  have e2 : (32 : Int) - (s : Int) = ((32 - s : Nat) : Int) := by omega
  have hm : 32 - s < 32 := by omega
  have hr := Lib.hid (rot_or x s hx (by omega))
  go_enter Tryd.func26, Tryd.ntmps26
  go_wp2
  go_ret
  refine ⟨ret_int ?_, rfl⟩
  have e3 : (x : Int) * 2 ^ s % 4294967296 = ((x * 2 ^ s % 4294967296 : Nat) : Int) := by rw [Int.natCast_emod, Int.natCast_mul, Int.natCast_pow]; rfl
  have e4 : (x : Int) / 2 ^ (32 - s) = ((x / 2 ^ (32 - s) : Nat) : Int) := by rw [Int.natCast_ediv, Int.natCast_pow]; rfl
  rw [e3, e4, hr.out]

end Go.Proofs.YtfcidddpoofjgaaDoor
