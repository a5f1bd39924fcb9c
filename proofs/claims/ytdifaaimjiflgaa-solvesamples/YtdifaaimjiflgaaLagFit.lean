/- Package lags: Fit. -/
import Derived.Test.YtdifaaimjiflgaaLagLen
import Derived.Test.YtdifaaimjiflgaaFill
import Derived.Lib.Zigzag
namespace Go.Proofs.Ytdifaaimjiflgaa
open Go.RowKit Bx

theorem i64_or_nat (a b : Nat) (ha : a < 9223372036854775808) (hb : b < 9223372036854775808) : bits .or .i64 (a : Int) (b : Int) = ((a ||| b : Nat) : Int) := by
  show IntKind.i64.wrap ((BitVec.ofInt 64 (a : Int) ||| BitVec.ofInt 64 (b : Int)).toNat : Int) = _
  have h1 : ∀ x : Nat, x < 9223372036854775808 → (BitVec.ofInt 64 (x : Int)).toNat = x := fun x hx => by
    rw [BitVec.ofInt_natCast, BitVec.toNat_ofNat]; exact Nat.mod_eq_of_lt (by omega)
  have h2 : a ||| b < 2 ^ 63 := Nat.or_lt_two_pow ha hb
  rw [BitVec.toNat_or, h1 a ha, h1 b hb, IntKind.wrap_i64]
  omega

theorem i64_turn (x : Int) (h : -1099511627776 ≤ x ∧ x ≤ 1099511627776) : bits .xor .i64 x (x / 9223372036854775808) = ((mag x : Nat) : Int) := by
  by_cases h0 : x < 0
  · rw [show x / 9223372036854775808 = -1 by omega]
    obtain ⟨n, hn⟩ : ∃ n : Nat, x = -(n : Int) - 1 := ⟨(-x - 1).toNat, by omega⟩
    have hm : mag x = n := by unfold mag; rw [if_pos h0]; omega
    rw [hm]
    show IntKind.i64.wrap ((BitVec.ofInt 64 x ^^^ BitVec.ofInt 64 (-1)).toNat : Int) = _
    have h1 : (BitVec.ofInt 64 (-1)).toNat = 2 ^ 64 - 1 := by decide
    have h2 : (BitVec.ofInt 64 x).toNat = 2 ^ 64 - 1 - n := by
      rw [BitVec.toNat_ofInt]
      omega
    rw [BitVec.toNat_xor, h1, h2, Nat.xor_comm, Lib.xor_ones64 _ (by omega), IntKind.wrap_i64]
    omega
  · rw [show x / 9223372036854775808 = 0 by omega]
    obtain ⟨n, rfl⟩ := Int.eq_ofNat_of_zero_le (show 0 ≤ x by omega)
    have hm : mag (n : Int) = n := by unfold mag; rw [if_neg h0]; omega
    rw [hm]
    show IntKind.i64.wrap ((BitVec.ofInt 64 (n : Int) ^^^ BitVec.ofInt 64 0).toNat : Int) = _
    have h1 : (BitVec.ofInt 64 0).toNat = 0 := by decide
    have h2 : (BitVec.ofInt 64 (n : Int)).toNat = n := by
      rw [BitVec.ofInt_natCast, BitVec.toNat_ofNat]; exact Nat.mod_eq_of_lt (by omega)
    rw [BitVec.toNat_xor, h1, h2, Nat.xor_zero, IntKind.wrap_i64]
    omega

theorem mag_bd (x : Int) (h : -1099511627776 ≤ x ∧ x ≤ 1099511627776) : mag x < 9223372036854775808 := by
  unfold mag
  split <;> omega

theorem bd_take_ors {zs : List Int} (h : Bd 1099511627776 zs) (i : Nat) : ors (zs.take i) < 9223372036854775808 := by
  have := ors_bd (bd_take h i)
  omega

theorem fit_nums (zs : List Int) (h : Bd 1099511627776 zs) : ors zs < 2199023255552 ∧ IntKind.u64.wrap ((ors zs : Nat) : Int) = ((ors zs : Nat) : Int) ∧ ((ors zs : Nat) : Int) % 18446744073709551616 = ((ors zs : Nat) : Int) ∧ wrap64 (((Lib.bitLen (ors zs) : Nat) : Int) - 22) = ((Lib.bitLen (ors zs) : Nat) : Int) - 22 ∧ max 0 (((Lib.bitLen (ors zs) : Nat) : Int) - 22) = ((fit zs : Nat) : Int) ∧ (if 0 < ((Lib.bitLen (ors zs) : Nat) : Int) - 22 then ((Lib.bitLen (ors zs) : Nat) : Int) - 22 else 0) = ((fit zs : Nat) : Int) := by
  have h1 := ors_bd h
  have h2 := bl_bd h
  unfold fit
  generalize ors zs = u at *
  generalize Lib.bitLen u = b at *
  refine ⟨h1, ?_, ?_, ?_, ?_, ?_⟩
  · rw [IntKind.wrap_u64]; omega
  · omega
  · unfold wrap64; omega
  · omega
  · split <;> omega

def FitInv (v : Value) (zs : List Int) (w : World) (a : Act) (w' : World) : Prop :=
  a.defers = [] ∧ a.tmps.size = 24 ∧ a.tmps[6]? = some v ∧ a.tmps[7]? = some (.int .i64 (zs.length : Int)) ∧ ∃ i : Nat, i ≤ zs.length ∧ a.tmps[8]? = some (.int .i64 (i : Int)) ∧ a.tmps[3]? = some (.int .i64 ((ors (zs.take i) : Nat) : Int)) ∧ w' = w

set_option maxHeartbeats 1000000 in
theorem fit_any (v : Value) (zs : List Int) (w : World) (hs : Sl w v (ivs zs)) (hb : Bd 1099511627776 zs) :
    Calls Try.prog 27 #[v] w fun e w' => e = .returned (.int .i64 ((fit zs : Nat) : Int)) ∧ w' = w := by
  obtain ⟨ao, cap, rfl, hl1, hl2, hc⟩ := hs.ints
  have hl : zs.length ≤ 9223372036854775807 := by simp only [maxLen] at hl2; omega
  have HC := Lib.hid hc
  have HL := Lib.hid hl
  have HB := Lib.hid hb
  clear hs hc hl hl1 hl2 hb
  go_enter Try.func27, Try.ntmps27
  go_wp2
  refine wp_loop (FitInv (.slice ao zs.length cap) zs w) (fun a _ => zs.length - (intOf (a.tmps.getD 8 undef)).toNat) ?_ ?_
  · exact ⟨rfl, rfl, rfl, rfl, 0, Nat.zero_le _, rfl, rfl, rfl⟩
  · rintro ⟨tm, df⟩ w1 ⟨rfl, hs, h6, h7, i, hi, h8, h3, rfl⟩
    simp only at hs h6 h7 h8 h3
    obtain ⟨f, hf, hg⟩ := fr_open hs
    have e6 := hg _ _ h6
    have e7 := hg _ _ h7
    have e8 := hg _ _ h8
    have e3 := hg _ _ h3
    simp only [List.range, List.range.loop, List.map] at hf
    rw [e6, e7, e8, e3] at hf
    clear e6 e7 e8 e3 hg hs h6 h7 h8 h3
    subst hf
    by_cases hlt : i < zs.length
    · obtain ⟨b1, o1, rfl, _, hc1⟩ := HC.out (by omega)
      have hd1 := hc1 i hlt
      clear hc1
      have hi1 : (i : Int) < (zs.length : Int) := by omega
      have hdd : decide (i < zs.length) = true := decide_eq_true hlt
      have hw1 : wrap64 ((i : Int) + 1) = ((i + 1 : Nat) : Int) := by have := HL.out; unfold wrap64; omega
      have HI := Lib.hid hlt
      have HO := Lib.hid (ors_take zs i hlt)
      clear hlt hi
      have HX := Lib.hid (HB.out.any (by decide) i)
      have HU := Lib.hid (bd_take_ors HB.out i)
      generalize zs.getD i 0 = x at *
      generalize ors (zs.take i) = u at *
      have HW1 := Lib.hid hw1
      clear hw1
      go_wp2
      rw [HW1.out]
      refine ⟨⟨rfl, rfl, rfl, rfl, i + 1, HI.out, rfl, ?_, rfl⟩, nearer HI.out rfl⟩
      rw [HO.out, ← i64_or_nat u (mag x) HU.out (mag_bd x HX.out), ← i64_turn x HX.out]
      rfl
    · have hie : i = zs.length := by omega
      subst hie
      have hdd : decide (zs.length < zs.length) = false := decide_eq_false hlt
      rw [List.take_length]
      obtain ⟨n1, n2, n3, n4, n5, n6⟩ := fit_nums zs HB.out
      have HLn := Lib.hid (len_any (ors zs) w1 n1)
      generalize hft : fit zs = ft at *
      have HFT := Lib.hid hft
      clear hft
      generalize Lib.bitLen (ors zs) = bl at *
      generalize ors zs = u at *
      clear n1 hlt hi
      go_wp2_with (go_at_call 25; refine HLn.out.mono ?_; rintro e w2 ⟨rfl, rfl⟩)
      go_ret
      exact ⟨by rw [HFT.out]; rfl, rfl⟩

end Go.Proofs.Ytdifaaimjiflgaa
