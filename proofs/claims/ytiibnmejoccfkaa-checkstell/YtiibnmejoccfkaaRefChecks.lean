/- Contracts of the reference of layer 4: a register into which bits went. -/
import Derived.Test.YtiibnmejoccfkaaEight
import Derived.Test.YtiibnmejoccfkaaRefBits
namespace Go.Proofs.Ytiibnmejoccfkaa
open Go.RowKit Bx Crc

theorem i64_xor_nat (a b : Nat) (ha : a < 65536) (hb : b < 65536) : bits .xor .i64 (a : Int) (b : Int) = ((a ^^^ b : Nat) : Int) := by
  have e1 : (BitVec.ofInt 64 (a : Int) ^^^ BitVec.ofInt 64 (b : Int)).toNat = a ^^^ b := by
    rw [BitVec.toNat_xor, BitVec.toNat_ofInt, BitVec.toNat_ofInt]
    congr 1 <;> omega
  show IntKind.i64.wrap (((BitVec.ofInt 64 (a : Int) ^^^ BitVec.ofInt 64 (b : Int)).toNat : Nat) : Int) = _
  have h := Nat.xor_lt_two_pow (n := 16) ha hb
  rw [e1, IntKind.wrap_i64]
  omega

def GoInv1 (v : Value) (c W g : Nat) (w : World) (a : Act) (w' : World) : Prop :=
  w' = w ∧ a.defers = [] ∧ a.tmps.size = 44 ∧ a.tmps[0]? = some (.int .i64 (c : Int)) ∧ a.tmps[1]? = some v ∧ a.tmps[2]? = some (.int .i64 (W : Int)) ∧ a.tmps[3]? = some (.int .i64 (g : Int)) ∧
    ∃ i, i ≤ W ∧ a.tmps[10]? = some (.int .i64 ((i : Nat) : Int)) ∧ a.tmps[9]? = some (.int .i64 ((2 ^ i : Nat) : Int))

def GoInv2 (v : Value) (c W g : Nat) (l : List Bool) (w : World) (a : Act) (w' : World) : Prop :=
  w' = w ∧ a.defers = [] ∧ a.tmps.size = 44 ∧ a.tmps[1]? = some v ∧ a.tmps[3]? = some (.int .i64 (g : Int)) ∧ a.tmps[9]? = some (.int .i64 ((2 ^ W : Nat) : Int)) ∧
    ∃ i, i ≤ l.length ∧ a.tmps[11]? = some (.int .i64 ((i : Nat) : Int)) ∧ a.tmps[0]? = some (.int .i64 ((crc W g c (l.take i) : Nat) : Int))

theorem top_bit {W c : Nat} (hW : 1 ≤ W) (hc : c < 2 ^ W) : c.testBit (W - 1) = decide (2 ^ W ≤ 2 * c) := by
  have e : (2 : Nat) ^ W = 2 * 2 ^ (W - 1) := by rw [← Nat.pow_succ', show (W - 1).succ = W by omega]
  rw [Nat.testBit_eq_decide_div_mod_eq]
  have h3 : c / 2 ^ (W - 1) < 2 := by rw [Nat.div_lt_iff_lt_mul (Nat.two_pow_pos _)]; omega
  have h4 : c / 2 ^ (W - 1) % 2 = c / 2 ^ (W - 1) := Nat.mod_eq_of_lt h3
  rw [h4]
  by_cases h : 2 ^ W ≤ 2 * c
  · have h5 : 1 ≤ c / 2 ^ (W - 1) := by rw [Nat.le_div_iff_mul_le (Nat.two_pow_pos _)]; omega
    have h6 : c / 2 ^ (W - 1) = 1 := by generalize c / 2 ^ (W - 1) = q at *; omega
    simp [h, h6]
  · have h5 : c / 2 ^ (W - 1) = 0 := Nat.div_eq_of_lt (by omega)
    simp [h, h5]

set_option maxHeartbeats 400000 in
theorem go_any (c W g : Nat) (v : Value) (l : List Bool) (w : World) (hs : Sl w v (bls l)) (hW : 1 ≤ W) (hW2 : W ≤ 16) (hc : c < 2 ^ W) (hg : g < 2 ^ W) (hl : l.length < 1099511627776) :
    Calls Try.prog 20 #[.int .i64 (c : Int), v, .int .i64 (W : Int), .int .i64 (g : Int)] w fun e w' => e = .returned (.int .i64 ((crc W g c l : Nat) : Int)) ∧ w = w' := by
  obtain ⟨ao, cap, rfl, hcap, hmax, hp⟩ := hs.bools
  have HP := Lib.hid hp
  have HC := Lib.hid hc
  have HG := Lib.hid hg
  have HL := Lib.hid hl
  clear hp hs hc hg hl hcap hmax
  go_enter Try.func20, Try.ntmps20
  go_wp2
  refine wp_loop (GoInv1 (.slice ao l.length cap) c W g w) (fun a _ => W - (intOf (a.tmps.getD 10 undef)).toNat) ?_ ?_
  · exact ⟨rfl, rfl, rfl, rfl, rfl, rfl, rfl, 0, Nat.zero_le _, rfl, rfl⟩
  · rintro ⟨tm, df⟩ w1 ⟨rfl, rfl, hz, h0, h1, h2, h3, i, hi, h10, h9⟩
    simp only at hz h0 h1 h2 h3 h9 h10
    obtain ⟨f, hf, hg⟩ := fr_open hz
    have e0 := hg _ _ h0
    have e1 := hg _ _ h1
    have e2 := hg _ _ h2
    have e3 := hg _ _ h3
    have e9 := hg _ _ h9
    have e10 := hg _ _ h10
    simp only [List.range, List.range.loop, List.map] at hf
    rw [e0, e1, e2, e3, e9, e10] at hf
    clear e0 e1 e2 e3 e9 e10 hg hz h0 h1 h2 h3 h9 h10
    subst hf
    by_cases hlt : i < W
    · have hp2 : 2 ^ i ≤ 2 ^ 16 := Nat.pow_le_pow_right (by decide) (by omega)
      have hn : 2 ^ (i + 1) = 2 * 2 ^ i := by rw [Nat.pow_succ, Nat.mul_comm]
      have HN := Lib.hid hn
      clear hn
      generalize 2 ^ i = s at *
      have hs1 : (s : Int) ≤ 65536 := by omega
      clear hp2
      go_wp2
      refine ⟨⟨rfl, rfl, rfl, rfl, rfl, rfl, rfl, i + 1, hlt, rfl, ?_⟩, ?_⟩
      · exact congrArg (fun z => some (Value.int .i64 z)) (by rw [HN.out]; omega)
      · simp [intOf]; omega
    · have e : i = W := by omega
      subst e
      have hd : decide (i < i) = false := by simp
      have hp2 : 2 ^ i ≤ 2 ^ 16 := Nat.pow_le_pow_right (by decide) hW2
      have hp0 := Nat.two_pow_pos i
      go_wp2
      refine wp_loop (GoInv2 (.slice ao l.length cap) c i g l w1) (fun a _ => l.length - (intOf (a.tmps.getD 11 undef)).toNat) ?_ ?_
      · exact ⟨rfl, rfl, rfl, rfl, rfl, rfl, 0, Nat.zero_le _, rfl, rfl⟩
      · clear hd hi hlt
        rintro ⟨tm, df⟩ w2 ⟨rfl, rfl, hz, h1, h3, h9, j, hj, h11, h0⟩
        simp only at hz h0 h1 h3 h9 h11
        obtain ⟨f2, hf, hg⟩ := fr_open hz
        have e0 := hg _ _ h0
        have e1 := hg _ _ h1
        have e3 := hg _ _ h3
        have e9 := hg _ _ h9
        have e11 := hg _ _ h11
        simp only [List.range, List.range.loop, List.map] at hf
        rw [e0, e1, e3, e9, e11] at hf
        clear e0 e1 e3 e9 e11 hg hz h0 h1 h3 h9 h11
        subst hf
        by_cases hlt : j < l.length
        · obtain ⟨b, off, rfl, _, hcc⟩ := HP.out (by omega)
          have hdc := hcc j hlt
          clear hcc
          have hj1 : (j : Int) < (l.length : Int) := by omega
          have hj2 : (j : Int) < 1099511627776 := by have := HL.out; omega
          have hk : crc i g c (l.take j) < 2 ^ i := crc_lt HG.out _ _ HC.out
          have hn : crc i g c (l.take (j + 1)) = reg i g (crc i g c (l.take j)) (l.getD j false) := by
            rw [List.take_succ_eq_append_getElem hlt, crc_append]; simp [hlt, crc]
          generalize crc i g c (l.take j) = k at *
          have htop := top_bit hW hk
          unfold reg at hn
          rw [htop] at hn
          have HK := Lib.hid hk
          have hg1 := HG.out
          generalize hsz : 2 ^ i = s at *
          have hs1 : (s : Int) ≤ 65536 := by omega
          have hs0 : (0 : Int) < (s : Int) := by omega
          have hk1 : (k : Int) < (s : Int) := by omega
          have HX := Lib.hid (i64_xor_nat (2 * k % s) g (by have := Nat.mod_lt (2 * k) hp0; omega) (by omega))
          have HI := Lib.hid (show 2 * (k : Int) % (s : Int) = ((2 * k % s : Nat) : Int) by simp)
          generalize l.getD j false = bt at *
          have HN := Lib.hid hn
          clear hn htop hk hp2 hp0 hg1 hW hW2
          have htt : decide (s ≤ 2 * k) = decide ((s : Int) ≤ 2 * (k : Int)) := by simp; omega
          have HTT := Lib.hid htt
          have HSZ : Hid (some (Value.int .i64 (s : Int)) = some (Value.int .i64 ((2 ^ i : Nat) : Int))) := Lib.hid (by rw [hsz])
          clear htt hsz
          have HY : Hid (∀ z : Int, z = ((crc i g c (l.take (j + 1)) : Nat) : Int) → some (Value.int .i64 z) = some (Value.int .i64 ((crc i g c (l.take (j + 1)) : Nat) : Int))) := Lib.hid (fun z h => by rw [h])
          by_cases hh : (s : Int) ≤ 2 * (k : Int)
          · cases bt
            · go_wp2
              refine ⟨⟨rfl, rfl, rfl, rfl, rfl, HSZ.out, j + 1, hlt, rfl, HY.out _ ?_⟩, ?_⟩
              · rw [HN.out, HTT.out, HI.out, HX.out]; simp [hh]
              · simp [intOf]; omega
            · go_wp2
              refine ⟨⟨rfl, rfl, rfl, rfl, rfl, HSZ.out, j + 1, hlt, rfl, HY.out _ ?_⟩, ?_⟩
              · rw [HN.out, HTT.out, HI.out]; simp [hh]
              · simp [intOf]; omega
          · cases bt
            · go_wp2
              refine ⟨⟨rfl, rfl, rfl, rfl, rfl, HSZ.out, j + 1, hlt, rfl, HY.out _ ?_⟩, ?_⟩
              · rw [HN.out, HTT.out, HI.out]; rw [show decide ((s : Int) ≤ 2 * (k : Int)) = false from decide_eq_false (by omega)]; simp
              · simp [intOf]; omega
            · go_wp2
              refine ⟨⟨rfl, rfl, rfl, rfl, rfl, HSZ.out, j + 1, hlt, rfl, HY.out _ ?_⟩, ?_⟩
              · rw [HN.out, HTT.out, HI.out, HX.out]; rw [show decide ((s : Int) ≤ 2 * (k : Int)) = false from decide_eq_false (by omega)]; simp
              · simp [intOf]; omega
        · have e : j = l.length := by omega
          subst e
          rw [List.take_length]
          have hd : decide (l.length < l.length) = false := by simp
          go_wp2
          go_ret
          exact ⟨rfl, rfl⟩

set_option maxHeartbeats 400000 in
theorem reight_any (c : Nat) (v : Value) (B : List Nat) (w : World) (hs : Sl w v (u8s B)) (hB : ∀ b ∈ B, b < 256) (hl : B.length ≤ 200) (hc : c < 256) :
    Calls Try.prog 12 #[.int .u8 (c : Int), v] w fun e w' => e = .returned (.int .u8 ((crc 8 7 c (bitsOf B) : Nat) : Int)) ∧ Kept Nix w w' := by
  have HB := Lib.hid (bits_any 0 v B w hs hB hl (Nat.zero_le _))
  have hbl := bitsOf_length _ B rfl
  obtain ⟨ao, cap, rfl⟩ := hs.shape
  have hr : crc 8 7 c (bitsOf B) < 256 := crc_lt (W := 8) (by decide) _ _ hc
  clear hs hB
  go_enter Try.func12, Try.ntmps12
  go_wp2_with fail
  refine HB.out.mono ?_
  rintro e w1 ⟨v1, rfl, o1, k1, _⟩
  have HG := Lib.hid (go_any c 8 7 v1 (bitsOf B) w1 (sl_of_owns o1) (by decide) (by decide) hc (by decide) (by omega))
  obtain ⟨ao1, cap1, rfl, _, _⟩ := owns_shape o1
  generalize hrr : crc 8 7 c (bitsOf B) = r at *
  have HR := Lib.hid hrr
  clear hrr
  clear o1 hbl
  go_wp2_with fail
  refine HG.out.mono ?_
  rintro e w2 ⟨rfl, rfl⟩
  go_wp2_with fail
  go_ret
  refine ⟨ret_int ?_, k1⟩
  rw [HR.out]

set_option maxHeartbeats 400000 in
theorem rsixteen_any (c : Nat) (v : Value) (B : List Nat) (w : World) (hs : Sl w v (u8s B)) (hB : ∀ b ∈ B, b < 256) (hl : B.length ≤ 200) (hc : c < 65536) :
    Calls Try.prog 14 #[.int .u16 (c : Int), v] w fun e w' => e = .returned (.int .u16 ((crc 16 32773 c (bitsOf B) : Nat) : Int)) ∧ Kept Nix w w' := by
  have HB := Lib.hid (bits_any 0 v B w hs hB hl (Nat.zero_le _))
  have hbl := bitsOf_length _ B rfl
  obtain ⟨ao, cap, rfl⟩ := hs.shape
  have hr : crc 16 32773 c (bitsOf B) < 65536 := crc_lt (W := 16) (by decide) _ _ hc
  clear hs hB
  go_enter Try.func14, Try.ntmps14
  go_wp2_with fail
  refine HB.out.mono ?_
  rintro e w1 ⟨v1, rfl, o1, k1, _⟩
  have HG := Lib.hid (go_any c 16 32773 v1 (bitsOf B) w1 (sl_of_owns o1) (by decide) (by decide) hc (by decide) (by omega))
  obtain ⟨ao1, cap1, rfl, _, _⟩ := owns_shape o1
  generalize hrr : crc 16 32773 c (bitsOf B) = r at *
  have HR := Lib.hid hrr
  clear hrr
  clear o1 hbl
  go_wp2_with fail
  refine HG.out.mono ?_
  rintro e w2 ⟨rfl, rfl⟩
  go_wp2_with fail
  go_ret
  refine ⟨ret_int ?_, k1⟩
  rw [HR.out]
end Go.Proofs.Ytiibnmejoccfkaa
