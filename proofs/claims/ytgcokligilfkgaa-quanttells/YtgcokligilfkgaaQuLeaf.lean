/- Package quant: nearest, furthest, greatestShift. -/
import Derived.Test.YtgcokligilfkgaaFill
import Derived.Test.YtgcokligilfkgaaQuMath
namespace Go.Proofs.Ytgcokligilfkgaa
open Go.RowKit Bx

theorem nearest_any (x : Int) (hx : -1152921504606846976 ≤ x ∧ x ≤ 1152921504606846976) (w : World) : Calls Try.prog 19 #[.int .i64 x] w fun e w' => e = .returned (.int .i64 ((x + 524288) / 1048576)) ∧ w' = w := by
  have h1 : wrap64 (x + 524288) = x + 524288 := w64_in _ (by omega)
  have h2 : wrap64 ((x + 524288) / 1048576) = (x + 524288) / 1048576 := w64_in _ (by omega)
  clear hx
  go_enter Try.func19, Try.ntmps19
  go_wp2
  go_ret
  exact ⟨rfl, rfl⟩

theorem wf_i64 {x : Int} (h : (Lit.int .i64 x).wf = true) : -9223372036854775808 ≤ x ∧ x ≤ 9223372036854775807 := by
  simp [Lit.wf, IntKind.min, IntKind.max, IntKind.bits, IntKind.signed] at h
  omega

theorem u64_close {x : Int} (h : (Lit.int .i64 x).wf = true) (hx : ¬ x < 0) : IntKind.u64.wrap x = (x.natAbs : Int) := by
  have := wf_i64 h
  simp [IntKind.wrap, IntKind.bits, IntKind.signed]
  omega

theorem u64_far {x : Int} (h : (Lit.int .i64 x).wf = true) (hx : x < 0) : ∃ U : Int, IntKind.u64.wrap x = U ∧ IntKind.u64.wrap (-U) = (x.natAbs : Int) := by
  have := wf_i64 h
  refine ⟨_, rfl, ?_⟩
  simp [IntKind.wrap, IntKind.bits, IntKind.signed]
  omega

def FurInv (v : Value) (zs : List Int) (w : World) (a : Act) (w' : World) : Prop :=
  a.defers = [] ∧ a.tmps.size = 24 ∧ a.tmps[0]? = some v ∧ a.tmps[7]? = some v ∧ a.tmps[8]? = some (.int .i64 (zs.length : Int)) ∧ ∃ i : Nat, i ≤ zs.length ∧ a.tmps[9]? = some (.int .i64 (i : Int)) ∧ a.tmps[3]? = some (.int .u64 ((far (zs.take i) : Nat) : Int)) ∧ w' = w

set_option maxHeartbeats 1000000 in
theorem furthest_any (v : Value) (zs : List Int) (w : World) (hs : Sl w v (ivs zs)) (hz : ∀ n ∈ zs, (Lit.int .i64 n).wf = true) :
    Calls Try.prog 14 #[v] w fun e w' => e = .returned (.int .u64 ((far zs : Nat) : Int)) ∧ w' = w := by
  obtain ⟨ao, cap, rfl, hl1, hl2, hc⟩ := hs.ints
  have hl : zs.length ≤ 9223372036854775807 := by simp only [maxLen] at hl2; omega
  have HC := Lib.hid hc
  have HL := Lib.hid hl
  have HZ := Lib.hid hz
  clear hs hc hl hl1 hl2 hz
  go_enter Try.func14, Try.ntmps14
  go_wp2
  refine wp_loop (FurInv (.slice ao zs.length cap) zs w) (fun a _ => zs.length - (intOf (a.tmps.getD 9 undef)).toNat) ?_ ?_
  · exact ⟨rfl, rfl, rfl, rfl, rfl, 0, Nat.zero_le _, rfl, rfl, rfl⟩
  · rintro ⟨tm, df⟩ w1 ⟨rfl, hs, h0, h7, h8, i, hi, h9, h3, rfl⟩
    simp only at hs h0 h7 h8 h9 h3
    obtain ⟨f, hf, hg⟩ := fr_open hs
    have e0 := hg _ _ h0
    have e3 := hg _ _ h3
    have e7 := hg _ _ h7
    have e8 := hg _ _ h8
    have e9 := hg _ _ h9
    simp only [List.range, List.range.loop, List.map] at hf
    rw [e0, e3, e7, e8, e9] at hf
    clear e0 e3 e7 e8 e9 hg hs h0 h3 h7 h8 h9
    subst hf
    by_cases hlt : i < zs.length
    · obtain ⟨b1, o1, rfl, _, hc1⟩ := HC.out (by omega)
      have hd1 := hc1 i hlt
      clear hc1
      have hi1 : (i : Int) < (zs.length : Int) := by omega
      have hdd : decide (i < zs.length) = true := decide_eq_true hlt
      have hw1 : wrap64 ((i : Int) + 1) = ((i + 1 : Nat) : Int) := by have := HL.out; unfold wrap64; omega
      have HI := Lib.hid hlt
      have HF := Lib.hid (far_take zs i hlt)
      have HW1 := Lib.hid hw1
      clear hw1 hlt hi
      have HX := Lib.hid (HZ.out (zs.getD i 0) (by simp only [List.getD, List.getElem?_eq_getElem HI.out, Option.getD_some]; exact List.getElem_mem HI.out))
      generalize zs.getD i 0 = x at *
      generalize far (zs.take i) = F at *
      by_cases hx : x < 0
      · obtain ⟨U, hu1, hu2⟩ := u64_far HX.out hx
        have hdx : decide (x < 0) = true := decide_eq_true hx
        clear hx
        generalize x.natAbs = N at *
        go_wp2
        all_goals rw [HW1.out]
        all_goals refine ⟨⟨rfl, rfl, rfl, rfl, rfl, i + 1, HI.out, rfl, ?_, rfl⟩, nearer HI.out rfl⟩
        all_goals rw [HF.out]
        all_goals exact congrArg (fun z => some (Value.int IntKind.u64 z)) (by omega)
      · have hdx : decide (x < 0) = false := decide_eq_false hx
        have hu1 := u64_close HX.out hx
        clear hx
        generalize x.natAbs = N at *
        go_wp2
        all_goals rw [HW1.out]
        all_goals refine ⟨⟨rfl, rfl, rfl, rfl, rfl, i + 1, HI.out, rfl, ?_, rfl⟩, nearer HI.out rfl⟩
        all_goals rw [HF.out]
        all_goals exact congrArg (fun z => some (Value.int IntKind.u64 z)) (by omega)
    · have hie : i = zs.length := by omega
      subst hie
      have hdd : decide (zs.length < zs.length) = false := decide_eq_false hlt
      rw [List.take_length]
      clear hlt hi
      go_wp2
      go_ret
      exact ⟨rfl, rfl⟩

theorem gs_start (p : Nat) (h2 : 2 ≤ p) (h15 : p ≤ 15) : ∃ q : Nat, wrap64 ((p : Int) - 1) = (q : Int) ∧ IntKind.u64.wrap (1048576 * 2 ^ min q 64) = ((2 ^ (p + 19) : Nat) : Int) := by
  refine ⟨p - 1, by unfold wrap64; omega, ?_⟩
  have e : (1048576 : Int) * 2 ^ min (p - 1) 64 = ((2 ^ (p + 19) : Nat) : Int) := by
    rw [Nat.min_eq_left (show p - 1 ≤ 64 by omega), show p + 19 = 20 + (p - 1) by omega, Nat.pow_add]
    simp
  have h := Nat.pow_le_pow_right (show 0 < 2 by decide) (show p + 19 ≤ 34 by omega)
  rw [e]
  generalize 2 ^ (p + 19) = L at *
  simp [IntKind.wrap, IntKind.bits, IntKind.signed]
  omega

def GsInv (F p L : Nat) (w : World) (a : Act) (w' : World) : Prop :=
  a.defers = [] ∧ a.tmps.size = 21 ∧ a.tmps[0]? = some (.int .u64 (F : Int)) ∧ a.tmps[6]? = some (.int .u64 (L : Int)) ∧ ∃ i : Nat, i ≤ 16 ∧ a.tmps[7]? = some (.int .i64 ((i : Int) - 1)) ∧ shAt F p i = shOf F p ∧ w' = w

def gsN (F p : Nat) : Int := match shOf F p with | some s => (s : Int) | none => 0

theorem sh_below (F p j : Nat) (hp : j ≤ p + 19) : F < 2 ^ (p + 19) / 2 ^ j ↔ F * 2 ^ j < 2 ^ (p + 19) := by
  rw [Nat.pow_div hp (by decide)]
  have e : (2 : Nat) ^ (p + 19) = 2 ^ (p + 19 - j) * 2 ^ j := by rw [← Nat.pow_add]; congr 1; omega
  rw [e]
  exact (Nat.mul_lt_mul_right (Nat.two_pow_pos j)).symm

set_option maxHeartbeats 1000000 in
theorem gshift_any (F p : Nat) (w : World) (h2 : 2 ≤ p) (h15 : p ≤ 15) :
    Calls Try.prog 15 #[.int .u64 (F : Int), .int .i64 (p : Int)] w fun e w' => e = .returned (.tuple #[.int .i64 (gsN F p), .bool (shOf F p).isSome]) ∧ w' = w := by
  obtain ⟨q, n1, n2⟩ := gs_start p h2 h15
  have HP := Lib.hid (And.intro h2 h15)
  have HB := Lib.hid (fun j (h : j ≤ 15) => sh_below F p j (by omega))
  have HE : Hid (shAt F p 16 = shOf F p) := Lib.hid rfl
  have HSU := Lib.hid (fun j => show shAt F p (j + 1) = if F * 2 ^ j < 2 ^ (p + 19) then some j else shAt F p j from rfl)
  clear h2 h15
  generalize 2 ^ (p + 19) = L at *
  go_enter Try.func15, Try.ntmps15
  go_wp2
  refine wp_loop (GsInv F p L w) (fun a _ => (intOf (a.tmps.getD 7 undef) + 1).toNat) ?_ ?_
  · exact ⟨rfl, rfl, rfl, rfl, 16, Nat.le_refl _, rfl, HE.out, rfl⟩
  · clear n1 n2
    rintro ⟨tm, df⟩ w1 ⟨rfl, hs, h0, h6, i, hi, h7, hsh, rfl⟩
    simp only at hs h0 h6 h7
    obtain ⟨f, hf, hg⟩ := fr_open hs
    have e0 := hg _ _ h0
    have e6 := hg _ _ h6
    have e7 := hg _ _ h7
    simp only [List.range, List.range.loop, List.map] at hf
    rw [e0, e6, e7] at hf
    clear e0 e6 e7 hg hs h0 h6 h7
    subst hf
    have HS := Lib.hid hsh
    clear hsh
    cases i with
    | zero =>
      rw [show ((0 : Nat) : Int) - 1 = -1 from rfl]
      have HN : Hid (shOf F p = none) := Lib.hid HS.out.symm
      go_wp2
      go_ret2
      exact ⟨by unfold gsN; rw [HN.out]; rfl, rfl⟩
    | succ j =>
      have hj : ((j + 1 : Nat) : Int) - 1 = (j : Int) := by omega
      rw [hj]
      have HJ := Lib.hid hi
      have hb := HB.out j (by omega)
      have hq : (L : Int) / 2 ^ min j 64 = ((L / 2 ^ j : Nat) : Int) := by rw [Nat.min_eq_left (by omega)]; simp
      have hw : wrap64 ((j : Int) - 1) = (j : Int) - 1 := by unfold wrap64; omega
      have HU := HSU.out j
      have hd : decide ((0 : Int) ≤ (j : Int)) = true := decide_eq_true (by omega)
      have HW := Lib.hid hw
      by_cases hc : F * 2 ^ j < L
      · rw [if_pos hc] at HU
        have hc2 := hb.2 hc
        have HR := Lib.hid (HS.out.symm.trans HU)
        have hd2 : decide ((F : Int) < (L : Int) / 2 ^ min j 64) = true := decide_eq_true (by rw [hq]; omega)
        clear hj hi hb hc hc2 HU hw hq
        go_wp2
        try rw [Exit.noGoto_ret]
        go_ret2
        exact ⟨by unfold gsN; rw [HR.out]; rfl, rfl⟩
      · rw [if_neg hc] at HU
        have hc2 : ¬ F < L / 2 ^ j := fun h => hc (hb.1 h)
        have HR := Lib.hid (HU.symm.trans HS.out)
        have hd2 : decide ((F : Int) < (L : Int) / 2 ^ min j 64) = false := decide_eq_false (by rw [hq]; omega)
        clear hj hi hb hc hc2 HU hw hq
        go_wp2
        rw [HW.out]
        refine ⟨⟨rfl, rfl, rfl, rfl, j, by have := HJ.out; omega, rfl, HR.out, rfl⟩, ?_⟩
        simp [intOf]

end Go.Proofs.Ytgcokligilfkgaa
