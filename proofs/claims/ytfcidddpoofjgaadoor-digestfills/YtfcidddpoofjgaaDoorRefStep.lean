/- The contract of the reference's Step. -/
import Derived.Test.YtfcidddpoofjgaaDoorRefDig
namespace Go.Proofs.YtfcidddpoofjgaaDoor
open Go.RowKit Bx Md

theorem at_four (x0 x1 x2 x3 j : Nat) (h : j < 4) : ([Value.int .i64 (x0 : Int), .int .i64 (x1 : Int), .int .i64 (x2 : Int), .int .i64 (x3 : Int)])[j] = Value.int .i64 (([x0, x1, x2, x3].getD j 0 : Nat) : Int) := by
  match j, h with
  | 0, _ | 1, _ | 2, _ | 3, _ => rfl

/-- What a step mixes, which word it takes, by how much it turns. -/
def StepPost (i b c d : Nat) (w : World) (e : Ending) (w' : World) : Prop :=
  e = .returned (.tuple #[.int .i64 ((mix (i / 16) b c d : Nat) : Int), .int .i64 ((idx (i / 16) i : Nat) : Int), .int .i64 ((trn (i / 16) i : Nat) : Int)]) ∧ Kept Nix w w'

set_option maxHeartbeats 400000 in
theorem step0_any (i b c d : Nat) (w : World) (hn : i / 16 = 0) (hb : b < 4294967296) (hc : c < 4294967296) (hd : d < 4294967296) :
    Calls Tryd.prog 18 #[.int .i64 (i : Int), .int .i64 (b : Int), .int .i64 (c : Int), .int .i64 (d : Int)] w (StepPost i b c d w) := by
  have hj4 : i % 4 < 4 := Nat.mod_lt _ (by decide)
  have hjt : (i : Int).tmod 4 = ((i % 4 : Nat) : Int) := by rw [Int.tmod_eq_emod_of_nonneg (by omega)]; omega
  have hnb : (4294967295 : Int) - (b : Int) = ((4294967295 ^^^ b : Nat) : Int) := by rw [not_sub b hb]; omega
  have hnl := not32 b hb
  have H1 := Lib.hid (w64_and b c hb hc)
  have H2 := Lib.hid (w64_and (4294967295 ^^^ b) d hnl hd)
  have H3 := Lib.hid (w64_or (b &&& c) ((4294967295 ^^^ b) &&& d) (Nat.and_lt_two_pow (n := 32) _ hc) (Nat.and_lt_two_pow (n := 32) _ hd))
  have HM : Hid (mix 0 b c d = (b &&& c) ||| ((4294967295 ^^^ b) &&& d)) := Lib.hid rfl
  have hwn : IntKind.i64.wrap ((4294967295 ^^^ b : Nat) : Int) = ((4294967295 ^^^ b : Nat) : Int) := by rw [IntKind.wrap_i64]; omega
  have HI : Hid (idx 0 i = i) := Lib.hid (by show (1 * i + 0) % 16 = i; omega)
  have HT : Hid (trn 0 i = [7, 12, 17, 22].getD (i % 4) 0) := Lib.hid rfl
  have hd16 : decide ((i : Int) < 16) = true := by simp; omega
  have HNN := Lib.hid hn
  clear hb hc hd hn
  have HJ := Lib.hid hj4
  generalize hjj : i % 4 = j at *
  clear hjj
  generalize 4294967295 ^^^ b = nb at *
  go_enter Tryd.func18, Tryd.ntmps18
  go_upto_region 3 with fail
  go_region
  have e4 : ([Value.int .i64 7, Value.int .i64 12, Value.int .i64 17, Value.int .i64 22])[j] = Value.int .i64 (([7, 12, 17, 22].getD j 0 : Nat) : Int) := at_four 7 12 17 22 j HJ.out
  go_wp2
  go_ret3
  refine ⟨?_, ((Kept.refl _ w).alloc _).drew⟩
  rw [HNN.out, HI.out, HT.out]
  rw [H1.out, H2.out, H3.out, ← HM.out]
  exact congrArg (fun v => Ending.returned (.tuple #[_, _, v])) e4

set_option maxHeartbeats 400000 in
theorem step1_any (i b c d : Nat) (w : World) (hn : i / 16 = 1) (hb : b < 4294967296) (hc : c < 4294967296) (hd : d < 4294967296) :
    Calls Tryd.prog 18 #[.int .i64 (i : Int), .int .i64 (b : Int), .int .i64 (c : Int), .int .i64 (d : Int)] w (StepPost i b c d w) := by
  have hj4 : i % 4 < 4 := Nat.mod_lt _ (by decide)
  have hjt : (i : Int).tmod 4 = ((i % 4 : Nat) : Int) := by rw [Int.tmod_eq_emod_of_nonneg (by omega)]; omega
  have hnb : (4294967295 : Int) - (d : Int) = ((4294967295 ^^^ d : Nat) : Int) := by rw [not_sub d hd]; omega
  have hnl := not32 d hd
  have H1 := Lib.hid (w64_and d b hd hb)
  have H2 := Lib.hid (w64_and (4294967295 ^^^ d) c hnl hc)
  have H3 := Lib.hid (w64_or (d &&& b) ((4294967295 ^^^ d) &&& c) (Nat.and_lt_two_pow (n := 32) _ hb) (Nat.and_lt_two_pow (n := 32) _ hc))
  have HM : Hid (mix 1 b c d = (d &&& b) ||| ((4294967295 ^^^ d) &&& c)) := Lib.hid rfl
  have hwn : IntKind.i64.wrap ((4294967295 ^^^ d : Nat) : Int) = ((4294967295 ^^^ d : Nat) : Int) := by rw [IntKind.wrap_i64]; omega
  have HI : Hid (idx 1 i = (5 * i + 1) % 16) := Lib.hid (by rfl)
  have HT : Hid (trn 1 i = [5, 9, 14, 20].getD (i % 4) 0) := Lib.hid rfl
  have hd16 : decide ((i : Int) < 16) = false := by simp; omega
  have hd32 : decide ((i : Int) < 32) = true := by simp; omega
  have hm1 : (5 : Int) * (i : Int) = ((5 * i : Nat) : Int) := by omega
  have hmw : IntKind.i64.wrap ((5 * i : Nat) : Int) = ((5 * i : Nat) : Int) := by rw [IntKind.wrap_i64]; omega
  have hs1 : ((5 * i : Nat) : Int) + 1 = ((5 * i + 1 : Nat) : Int) := by omega
  have hsw : IntKind.i64.wrap ((5 * i + 1 : Nat) : Int) = ((5 * i + 1 : Nat) : Int) := by rw [IntKind.wrap_i64]; omega
  have hrm : ((5 * i + 1 : Nat) : Int).tmod 16 = (((5 * i + 1) % 16 : Nat) : Int) := by rw [Int.tmod_eq_emod_of_nonneg (by omega)]; omega
  have HNN := Lib.hid hn
  clear hb hc hd hn
  have HJ := Lib.hid hj4
  generalize hjj : i % 4 = j at *
  clear hjj
  generalize 4294967295 ^^^ d = nb at *
  generalize (5 * i + 1) % 16 = kx at *
  generalize 5 * i + 1 = m2 at *
  generalize 5 * i = m1 at *
  go_enter Tryd.func18, Tryd.ntmps18
  go_upto_region 5 with fail
  go_region
  have e4 : ([Value.int .i64 5, Value.int .i64 9, Value.int .i64 14, Value.int .i64 20])[j] = Value.int .i64 (([5, 9, 14, 20].getD j 0 : Nat) : Int) := at_four 5 9 14 20 j HJ.out
  go_wp2
  go_ret3
  refine ⟨?_, ((Kept.refl _ w).alloc _).drew⟩
  rw [HNN.out, HI.out, HT.out]
  rw [H1.out, H2.out, H3.out, ← HM.out]
  exact congrArg (fun v => Ending.returned (.tuple #[_, _, v])) e4

set_option maxHeartbeats 400000 in
theorem step2_any (i b c d : Nat) (w : World) (hn : i / 16 = 2) (hb : b < 4294967296) (hc : c < 4294967296) (hd : d < 4294967296) :
    Calls Tryd.prog 18 #[.int .i64 (i : Int), .int .i64 (b : Int), .int .i64 (c : Int), .int .i64 (d : Int)] w (StepPost i b c d w) := by
  have hj4 : i % 4 < 4 := Nat.mod_lt _ (by decide)
  have hjt : (i : Int).tmod 4 = ((i % 4 : Nat) : Int) := by rw [Int.tmod_eq_emod_of_nonneg (by omega)]; omega
  have H1 := Lib.hid (w64_xor b c hb hc)
  have H2 := Lib.hid (w64_xor (b ^^^ c) d (Nat.xor_lt_two_pow (n := 32) hb hc) hd)
  have HM : Hid (mix 2 b c d = (b ^^^ c) ^^^ d) := Lib.hid rfl
  have HI : Hid (idx 2 i = (3 * i + 5) % 16) := Lib.hid (by rfl)
  have HT : Hid (trn 2 i = [4, 11, 16, 23].getD (i % 4) 0) := Lib.hid rfl
  have hd16 : decide ((i : Int) < 16) = false := by simp; omega
  have hd32 : decide ((i : Int) < 32) = false := by simp; omega
  have hd48 : decide ((i : Int) < 48) = true := by simp; omega
  have hm1 : (3 : Int) * (i : Int) = ((3 * i : Nat) : Int) := by omega
  have hmw : IntKind.i64.wrap ((3 * i : Nat) : Int) = ((3 * i : Nat) : Int) := by rw [IntKind.wrap_i64]; omega
  have hs1 : ((3 * i : Nat) : Int) + 5 = ((3 * i + 5 : Nat) : Int) := by omega
  have hsw : IntKind.i64.wrap ((3 * i + 5 : Nat) : Int) = ((3 * i + 5 : Nat) : Int) := by rw [IntKind.wrap_i64]; omega
  have hrm : ((3 * i + 5 : Nat) : Int).tmod 16 = (((3 * i + 5) % 16 : Nat) : Int) := by rw [Int.tmod_eq_emod_of_nonneg (by omega)]; omega
  have HNN := Lib.hid hn
  clear hb hc hd hn
  have HJ := Lib.hid hj4
  generalize hjj : i % 4 = j at *
  clear hjj
  skip
  generalize (3 * i + 5) % 16 = kx at *
  generalize 3 * i + 5 = m2 at *
  generalize 3 * i = m1 at *
  go_enter Tryd.func18, Tryd.ntmps18
  go_upto_region 7 with fail
  go_region
  have e4 : ([Value.int .i64 4, Value.int .i64 11, Value.int .i64 16, Value.int .i64 23])[j] = Value.int .i64 (([4, 11, 16, 23].getD j 0 : Nat) : Int) := at_four 4 11 16 23 j HJ.out
  go_wp2
  go_ret3
  refine ⟨?_, ((Kept.refl _ w).alloc _).drew⟩
  rw [HNN.out, HI.out, HT.out]
  rw [H1.out, H2.out, ← HM.out]
  exact congrArg (fun v => Ending.returned (.tuple #[_, _, v])) e4

set_option maxHeartbeats 400000 in
theorem step3_any (i b c d : Nat) (w : World) (hn : i / 16 = 3) (hb : b < 4294967296) (hc : c < 4294967296) (hd : d < 4294967296) :
    Calls Tryd.prog 18 #[.int .i64 (i : Int), .int .i64 (b : Int), .int .i64 (c : Int), .int .i64 (d : Int)] w (StepPost i b c d w) := by
  have hj4 : i % 4 < 4 := Nat.mod_lt _ (by decide)
  have hjt : (i : Int).tmod 4 = ((i % 4 : Nat) : Int) := by rw [Int.tmod_eq_emod_of_nonneg (by omega)]; omega
  have hnb : (4294967295 : Int) - (d : Int) = ((4294967295 ^^^ d : Nat) : Int) := by rw [not_sub d hd]; omega
  have hnl := not32 d hd
  have H1 := Lib.hid (w64_or b (4294967295 ^^^ d) hb hnl)
  have H2 := Lib.hid (w64_xor c (b ||| (4294967295 ^^^ d)) hc (Nat.or_lt_two_pow (n := 32) hb hnl))
  have HM : Hid (mix 3 b c d = c ^^^ (b ||| (4294967295 ^^^ d))) := Lib.hid rfl
  have hwn : IntKind.i64.wrap ((4294967295 ^^^ d : Nat) : Int) = ((4294967295 ^^^ d : Nat) : Int) := by rw [IntKind.wrap_i64]; omega
  have HI : Hid (idx 3 i = 7 * i % 16) := Lib.hid (by show (7 * i + 0) % 16 = 7 * i % 16; omega)
  have HT : Hid (trn 3 i = [6, 10, 15, 21].getD (i % 4) 0) := Lib.hid rfl
  have hd16 : decide ((i : Int) < 16) = false := by simp; omega
  have hd32 : decide ((i : Int) < 32) = false := by simp; omega
  have hd48 : decide ((i : Int) < 48) = false := by simp; omega
  have hm1 : (7 : Int) * (i : Int) = ((7 * i : Nat) : Int) := by omega
  have hmw : IntKind.i64.wrap ((7 * i : Nat) : Int) = ((7 * i : Nat) : Int) := by rw [IntKind.wrap_i64]; omega
  have hrm : ((7 * i : Nat) : Int).tmod 16 = ((7 * i % 16 : Nat) : Int) := by rw [Int.tmod_eq_emod_of_nonneg (by omega)]; omega
  have HNN := Lib.hid hn
  clear hb hc hd hn
  have HJ := Lib.hid hj4
  generalize hjj : i % 4 = j at *
  clear hjj
  generalize 4294967295 ^^^ d = nb at *
  generalize 7 * i % 16 = kx at *
  generalize 7 * i = m1 at *
  go_enter Tryd.func18, Tryd.ntmps18
  go_upto_region 8 with fail
  go_region
  have e4 : ([Value.int .i64 6, Value.int .i64 10, Value.int .i64 15, Value.int .i64 21])[j] = Value.int .i64 (([6, 10, 15, 21].getD j 0 : Nat) : Int) := at_four 6 10 15 21 j HJ.out
  go_wp2
  go_ret3
  refine ⟨?_, ((Kept.refl _ w).alloc _).drew⟩
  rw [HNN.out, HI.out, HT.out]
  rw [H1.out, H2.out, ← HM.out]
  exact congrArg (fun v => Ending.returned (.tuple #[_, _, v])) e4

theorem step_any (i b c d : Nat) (w : World) (hi : i < 64) (hb : b < 4294967296) (hc : c < 4294967296) (hd : d < 4294967296) :
    Calls Tryd.prog 18 #[.int .i64 (i : Int), .int .i64 (b : Int), .int .i64 (c : Int), .int .i64 (d : Int)] w (StepPost i b c d w) := by
  have h : i / 16 = 0 ∨ i / 16 = 1 ∨ i / 16 = 2 ∨ i / 16 = 3 := by omega
  rcases h with h | h | h | h
  · exact step0_any i b c d w h hb hc hd
  · exact step1_any i b c d w h hb hc hd
  · exact step2_any i b c d w h hb hc hd
  · exact step3_any i b c d w h hb hc hd

end Go.Proofs.YtfcidddpoofjgaaDoor
