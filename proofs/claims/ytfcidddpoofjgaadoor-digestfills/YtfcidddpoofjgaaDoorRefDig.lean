/- Contracts of the reference of layer 5: word, turn, Sines. -/
import Derived.Test.YtfcidddpoofjgaaDoorMdLeaf
import Derived.Test.YtfcidddpoofjgaaDoorAgg
namespace Go.Proofs.YtfcidddpoofjgaaDoor
open Go.RowKit Bx Md

theorem of64 (a : Nat) (h : a < 4294967296) : (BitVec.ofInt 64 (a : Int)).toNat = a := by
  rw [BitVec.ofInt_natCast, BitVec.toNat_ofNat]; exact Nat.mod_eq_of_lt (by omega)
theorem w64_and (a b : Nat) (ha : a < 4294967296) (hb : b < 4294967296) : bits .and .i64 (a : Int) (b : Int) = ((a &&& b : Nat) : Int) := by
  have hx : a &&& b < 2 ^ 32 := Nat.and_lt_two_pow _ (by omega)
  show IntKind.i64.wrap ((BitVec.ofInt 64 (a : Int) &&& BitVec.ofInt 64 (b : Int)).toNat : Int) = _
  rw [BitVec.toNat_and, of64 a ha, of64 b hb, IntKind.wrap_i64]
  omega
theorem w64_or (a b : Nat) (ha : a < 4294967296) (hb : b < 4294967296) : bits .or .i64 (a : Int) (b : Int) = ((a ||| b : Nat) : Int) := by
  have hx : a ||| b < 2 ^ 32 := Nat.or_lt_two_pow (by omega) (by omega)
  show IntKind.i64.wrap ((BitVec.ofInt 64 (a : Int) ||| BitVec.ofInt 64 (b : Int)).toNat : Int) = _
  rw [BitVec.toNat_or, of64 a ha, of64 b hb, IntKind.wrap_i64]
  omega
theorem w64_xor (a b : Nat) (ha : a < 4294967296) (hb : b < 4294967296) : bits .xor .i64 (a : Int) (b : Int) = ((a ^^^ b : Nat) : Int) := by
  have hx : a ^^^ b < 2 ^ 32 := Nat.xor_lt_two_pow (by omega) (by omega)
  show IntKind.i64.wrap ((BitVec.ofInt 64 (a : Int) ^^^ BitVec.ofInt 64 (b : Int)).toNat : Int) = _
  rw [BitVec.toNat_xor, of64 a ha, of64 b hb, IntKind.wrap_i64]
  omega

theorem not_sub (b : Nat) (hb : b < 4294967296) : 4294967295 ^^^ b = 4294967295 - b := by
  have h1 := congrArg BitVec.toNat (BitVec.allOnes_xor (x := BitVec.ofNat 32 b))
  rw [BitVec.toNat_xor, BitVec.toNat_not, BitVec.toNat_allOnes, BitVec.toNat_ofNat, Nat.mod_eq_of_lt (show b < 2 ^ 32 by omega)] at h1
  exact h1

theorem word_any (n : Nat) (w : World) : Calls Tryd.prog 19 #[.int .i64 (n : Int)] w fun e w' => e = .returned (.int .i64 ((n % 4294967296 : Nat) : Int)) ∧ w' = w := by
  go_enter Tryd.func19, Tryd.ntmps19
  go_wp2
  go_ret
  exact ⟨rfl, rfl⟩

def TurnInv (n s : Nat) (w : World) (a : Act) (w' : World) : Prop :=
  w' = w ∧ a.defers = [] ∧ a.tmps.size = 18 ∧ a.tmps[1]? = some (.int .i64 (s : Int)) ∧ ∃ i, i ≤ s ∧ a.tmps[5]? = some (.int .i64 ((i : Nat) : Int)) ∧ a.tmps[0]? = some (.int .i64 ((rot n i : Nat) : Int))

set_option maxHeartbeats 400000 in
theorem turn_any (n s : Nat) (w : World) (hn : n < 4294967296) (hs : s < 32) : Calls Tryd.prog 20 #[.int .i64 (n : Int), .int .i64 (s : Int)] w fun e w' => e = .returned (.int .i64 ((rot n s : Nat) : Int)) ∧ w' = w := by
  have HN := Lib.hid hn
  have HS := Lib.hid hs
  clear hn hs
  go_enter Tryd.func20, Tryd.ntmps20
  go_wp2_with fail
  refine wp_loop (TurnInv n s w) (fun a _ => s - (intOf (a.tmps.getD 5 undef)).toNat) ?_ ?_
  · exact ⟨rfl, rfl, rfl, rfl, 0, Nat.zero_le _, rfl, by rw [rot_zero n HN.out]; rfl⟩
  · rintro ⟨tm, df⟩ w1 ⟨rfl, rfl, hs, h1, i, hi, h5, h0⟩
    simp only at hs h1 h5 h0
    obtain ⟨f, hf, hg⟩ := fr_open hs
    have e0 := hg _ _ h0
    have e1 := hg _ _ h1
    have e5 := hg _ _ h5
    simp only [List.range, List.range.loop, List.map] at hf
    rw [e0, e1, e5] at hf
    clear e0 e1 e5 hg hs h0 h1 h5
    subst hf
    by_cases hlt : i < s
    · have hd : decide ((i : Int) < (s : Int)) = true := by simpa using hlt
      have HI := Lib.hid hlt
      have HR := Lib.hid (rot_succ n i (by have := HS.out; omega) HN.out)
      have HL := Lib.hid (rot_lt n i (by have := HS.out; omega) HN.out)
      have hi32 : (i : Int) < 32 := by have := HS.out; omega
      generalize rot n i = x at *
      have hm : (2 : Int) * (x : Int) = ((2 * x : Nat) : Int) := by omega
      have hq : (x : Int) / 2147483648 = ((x / 2147483648 : Nat) : Int) := by omega
      have hw1 : wrap64 ((2 * x : Nat) : Int) = ((2 * x : Nat) : Int) := by have := HL.out; unfold wrap64; omega
      have HW := Lib.hid (word_any (2 * x) w1)
      have hsum : ((2 * x % 4294967296 : Nat) : Int) + ((x / 2147483648 : Nat) : Int) = ((2 * x % 4294967296 + x / 2147483648 : Nat) : Int) := by omega
      have hw2 : wrap64 ((2 * x % 4294967296 + x / 2147483648 : Nat) : Int) = ((2 * x % 4294967296 + x / 2147483648 : Nat) : Int) := by have := HL.out; unfold wrap64; omega
      have hw3 : wrap64 ((x / 2147483648 : Nat) : Int) = ((x / 2147483648 : Nat) : Int) := by have := HL.out; unfold wrap64; omega
      clear hlt hi
      generalize 2 * x % 4294967296 = y1 at *
      generalize 2 * x = y2 at *
      generalize x / 2147483648 = y3 at *
      generalize y1 + y3 = y4 at *
      go_wp2_with (first | (go_at_call 19; refine HW.out.mono ?_; rintro e w2 ⟨rfl, rfl⟩))
      refine ⟨⟨rfl, rfl, rfl, rfl, i + 1, HI.out, rfl, by rw [HR.out]; exact congrArg (fun z => some (Value.int .i64 z)) hw2⟩, ?_⟩
      have := HI.out
      simp [intOf]; omega
    · have e : i = s := by omega
      subst e
      have hd : decide (i < i) = false := by simp
      clear hlt hi
      go_wp2
      go_ret
      exact ⟨rfl, rfl⟩

theorem sin_get (i : Nat) (hi : i < 64) : (sines.map fun n : Nat => Value.int .i64 (n : Int)).toArray[i]? = some (.int .i64 ((sine i : Nat) : Int)) := by
  have hl : sines.length = 64 := rfl
  rw [List.getElem?_toArray, List.getElem?_map, List.getElem?_eq_getElem (by rw [hl]; exact hi)]
  simp [sine, List.getD, List.getElem?_eq_getElem (show i < sines.length by rw [hl]; exact hi)]

theorem sines_any (w : World) : Calls Tryd.prog 17 #[] w fun e w' => e = .returned (.slice (some ⟨w.heap.size, 0, none⟩) 64 64) ∧ Kept Nix w w' ∧ ∀ i, i < 64 → w'.cell? ⟨w.heap.size, i, none⟩ = some (.int .i64 ((sine i : Nat) : Int)) := by
  go_enter Tryd.func17, Tryd.ntmps17
  go_wp2
  go_ret
  refine ⟨rfl, (Kept.refl _ w).alloc _, fun i hi => ?_⟩
  rw [cell_of (heap_alloc_new w _)]
  exact sin_get i hi

end Go.Proofs.YtfcidddpoofjgaaDoor
