/- The contract of number.Decode. -/
import Derived.Test.YtipbldajpdacdaaSpread
import Derived.Lib.Strings
import Derived.Lib.Slices
import Derived.Lib.Small
import Derived.Lib.Walk
import Derived.Lib.BitFns
namespace Go.Proofs.Ytipbldajpdacdaa
open Go.RowKit Bx Nm

set_option maxHeartbeats 400000 in
theorem len8_any (x : Int) (w : World) (h0 : 0 ≤ x) (h1 : x ≤ 255) : Calls Try.prog 26 #[.int .u8 x] w fun e w' => e = .returned (.int .i64 ((Lib.bitLen x.toNat : Nat) : Int)) ∧ w = w' := by
  go_enter Try.func26, Try.ntmps26
  go_wp2
  go_ret
  have h := Lib.len8_int x h0 h1
  refine ⟨?_, rfl⟩
  rw [← h]
  simp only [wrap64]
  rfl

theorem ones_len : ∀ b : Fin 256, Lib.bitLen (255 - b.val) = 8 - ones b.val := by decide +kernel
theorem ones_le (b : Nat) : ones b ≤ 8 := by unfold ones; repeat' split
                                             all_goals omega

set_option maxHeartbeats 400000 in
theorem lz8_any (b : Nat) (x : Int) (w : World) (hb : b < 256) (hx : x = ((255 - b : Nat) : Int)) : Calls Try.prog 21 #[.int .u8 x] w fun e w' => e = .returned (.int .i64 ((ones b : Nat) : Int)) ∧ w = w' := by
  have h8 := ones_le b
  have HL := len8_any x w (by omega) (by omega)
  rw [show x.toNat = 255 - b by omega, ones_len ⟨b, hb⟩] at HL
  simp only at HL
  have HL := Lib.hid HL
  have hx0 : 0 ≤ x := by omega
  have hx1 : x ≤ 255 := by omega
  have h9 : ((8 - ones b : Nat) : Int) = 8 - ((ones b : Nat) : Int) := by omega
  rw [h9] at HL
  clear hx h9
  generalize ones b = o at *
  go_enter Try.func21, Try.ntmps21
  go_wp2_with (go_at_call 26; refine HL.out.mono ?_; rintro e w' ⟨rfl, rfl⟩)
  go_ret
  refine ⟨ret_int ?_, rfl⟩
  first | omega | (unfold wrap64; omega)

theorem compl8 : ∀ b : Fin 256, bits .xor .u8 (if IntKind.u8.signed = true then -1 else IntKind.u8.max) ((b.val : Nat) : Int) = ((255 - b.val : Nat) : Int) := by decide +kernel
theorem andNot63 : ∀ b : Fin 256, bits .andNot .u8 ((b.val : Nat) : Int) 63 = ((b.val / 64 * 64 : Nat) : Int) := by decide +kernel
theorem andTop : ∀ (o : Fin 8) (b : Fin 256), bits .and .u8 ((b.val : Nat) : Int) (127 / 2 ^ o.val) = ((b.val % 2 ^ (7 - o.val) : Nat) : Int) := by decide +kernel

theorem and63 (x : Nat) (hx : x < 256) : bits .and .u8 (x : Int) 63 = ((x % 64 : Nat) : Int) := by
  have := u8_and_nat x 63 hx (by decide)
  rw [show (63 : Nat) = 2 ^ 6 - 1 by decide, Nat.and_two_pow_sub_one_eq_mod] at this
  exact this

theorem i64_or_nat (a b : Nat) (ha : a < 9223372036854775808) (hb : b < 9223372036854775808) : bits .or .i64 (a : Int) (b : Int) = ((a ||| b : Nat) : Int) := by
  show IntKind.i64.wrap ((BitVec.ofInt 64 (a : Int) ||| BitVec.ofInt 64 (b : Int)).toNat : Int) = _
  have h1 : (BitVec.ofInt 64 (a : Int)).toNat = a := by
    rw [BitVec.ofInt_natCast, BitVec.toNat_ofNat]; exact Nat.mod_eq_of_lt (by omega)
  have h2 : (BitVec.ofInt 64 (b : Int)).toNat = b := by
    rw [BitVec.ofInt_natCast, BitVec.toNat_ofNat]; exact Nat.mod_eq_of_lt (by omega)
  have h3 : a ||| b < 2 ^ 63 := Nat.or_lt_two_pow (by omega) (by omega)
  rw [BitVec.toNat_or, h1, h2, IntKind.wrap_i64]
  omega

theorem or_sixes (n c : Nat) (hn : n < 8796093022208) : bits .or .i64 ((n : Int) * 64) ((c : Int) % 64) = ((n * 64 + c % 64 : Nat) : Int) := by
  have := i64_or_nat (n * 64) (c % 64) (by omega) (by omega)
  rw [or_add _ _ 6 (by omega) (by omega)] at this
  rw [show (n : Int) * 64 = ((n * 64 : Nat) : Int) by omega, show (c : Int) % 64 = ((c % 64 : Nat) : Int) by omega, this]

theorem tl_last (s n i : Nat) (B : List Nat) (h1 : i < s) (h2 : i = B.length) : tl (s - i) n (B.drop i) = (0, 2) := by
  rw [show s - i = s - i - 1 + 1 by omega, List.drop_of_length_le (by omega)]; rfl
theorem tl_next (s n i : Nat) (B : List Nat) (h1 : i < s) (h2 : i < B.length) : tl (s - i) n (B.drop i) = if B.getD i 0 / 64 = 2 then tl (s - (i + 1)) (n * 64 + B.getD i 0 % 64) (B.drop (i + 1)) else (0, 5) := by
  rw [show s - i = s - i - 1 + 1 by omega, List.drop_eq_getElem_cons h2, tl, show s - i - 1 = s - (i + 1) by omega]
  simp [List.getD, h2]

/-- An answer of Decode. -/
def DecIs (x : Nat × Nat × Nat) (w : World) (e : Ending) (w' : World) : Prop := e = .returned (.tuple #[.int .i64 (x.1 : Int), .int .i64 (x.2.1 : Int), .int .i64 (x.2.2 : Int)]) ∧ ∃ n, w' = w.drewN n

def DecInv (v : Value) (B : List Nat) (s : Nat) (X : Nat × Nat) (w : World) (a : Act) (w' : World) : Prop :=
  a.defers = [] ∧ a.tmps.size = 60 ∧ a.tmps[0]? = some v ∧ a.tmps[3]? = some (.int .i64 (s : Int)) ∧ ∃ i n, 1 ≤ i ∧ i ≤ s ∧ i ≤ B.length ∧ n < 2 ^ (6 * i + 1) ∧ a.tmps[2]? = some (.int .i64 ((n : Nat) : Int)) ∧ a.tmps[6]? = some (.int .i64 ((i : Nat) : Int)) ∧
    X = tl (s - i) n (B.drop i) ∧ ∃ k, w' = w.drewN k

theorem pow_step (n i c : Nat) (h : n < 2 ^ (6 * i + 1)) : n * 64 + c % 64 < 2 ^ (6 * (i + 1) + 1) := by
  rw [show 6 * (i + 1) + 1 = 6 * i + 1 + 6 by omega, Nat.pow_add]
  omega
theorem pow_lim (i : Nat) (h : i ≤ 7) : 2 ^ (6 * i + 1) ≤ 8796093022208 := by
  have := Nat.pow_le_pow_right (n := 2) (by decide) (show 6 * i + 1 ≤ 43 by omega)
  simpa using this

set_option maxHeartbeats 1000000 in
theorem decode_any (v : Value) (B : List Nat) (w : World) (h : Sl w v (u8s B)) (hB : ∀ b ∈ B, b < 256) (hl : B.length < 1099511627776) : Calls Try.prog 12 #[v] w (DecIs (dec B) w) := by
  cases B with
  | nil =>
    obtain ⟨ao, cap, rfl⟩ := h.shape
    have HP : Hid (∀ e, e = Ending.returned (.tuple #[.int .i64 0, .int .i64 0, .int .i64 2]) → DecIs (dec []) w e w) := Lib.hid (fun e he => ⟨he, 0, rfl⟩)
    clear h hB hl
    simp only [List.length_nil]
    go_enter Try.func12, Try.ntmps12
    go_wp2
    go_ret3
    exact HP.out _ rfl
  | cons b r =>
    have hb : b < 256 := hB b (by simp)
    obtain ⟨bl, off, cap, rfl, hcap, hmax, hcell⟩ := h.cells (by simp)
    have hc0 := hcell 0 (by simp)
    simp only [List.getD_cons_zero, Nat.add_zero] at hc0
    have HCELL := Lib.hid hcell
    have HBB := Lib.hid hB
    have ho := ones_le b
    have hx := compl8 ⟨b, hb⟩
    simp only at hx
    have HL := Lib.hid (fun w => lz8_any b _ w hb rfl)
    rw [← hx] at HL
    clear hx
    have hlen : (0 : Int) < (((b :: r).length : Nat) : Int) := by simp only [List.length_cons]; omega
    by_cases hbad : ones b = 1 ∨ ones b = 8
    · have HP : Hid (∀ e n, e = Ending.returned (.tuple #[.int .i64 0, .int .i64 0, .int .i64 5]) → DecIs (dec (b :: r)) w e (w.drewN n)) := Lib.hid (fun e n he => ⟨by rw [he]; simp only [dec, if_pos hbad]; rfl, n, rfl⟩)
      generalize hBB : (b :: r) = B at *
      clear hBB h hB hcell
      rcases hbad with hbad | hbad <;> rw [hbad] at HL <;> clear hbad ho
      · go_enter Try.func12, Try.ntmps12
        go_wp2_with (go_at_call 21; refine (HL.out _).mono ?_; rintro e w' ⟨rfl, rfl⟩)
        go_ret3
        exact HP.out _ 0 rfl
      · go_enter Try.func12, Try.ntmps12
        go_wp2_with (go_at_call 21; refine (HL.out _).mono ?_; rintro e w' ⟨rfl, rfl⟩)
        go_ret3
        exact HP.out _ 0 rfl
    · have hd : dec (b :: r) = fin (max 1 (ones b)) (tl (max 1 (ones b) - 1) (b % 2 ^ (7 - ones b)) r) := by simp only [dec, if_neg hbad]
      have hn0 : b % 2 ^ (7 - ones b) < 128 := by
        have h1 : 2 ^ (7 - ones b) ≤ 2 ^ 7 := Nat.pow_le_pow_right (by decide) (by omega)
        have := Nat.mod_lt b (Nat.two_pow_pos (7 - ones b))
        omega
      have hand := andTop ⟨ones b, by omega⟩ ⟨b, hb⟩
      simp only at hand
      rw [hd]
      generalize hX : tl (max 1 (ones b) - 1) (b % 2 ^ (7 - ones b)) r = X
      have ho1 : ((ones b : Nat) : Int) ≠ 1 := by omega
      have ho7 : decide ((7 : Int) < ((ones b : Nat) : Int)) = false := by simp; omega
      have hB0 : (b :: r).drop 1 = r := rfl
      have hB1 : 1 ≤ (b :: r).length := by simp
      generalize b % 2 ^ (7 - ones b) = n0 at *
      generalize hBB : (b :: r) = B at *
      rw [← hB0] at hX
      have HX := Lib.hid hX
      generalize ones b = o at *
      have hmx : max (1 : Int) (o : Int) = ((max 1 o : Nat) : Int) := by omega
      have hs1 : 1 ≤ max 1 o := by omega
      have hs7 : max 1 o ≤ 7 := by omega
      generalize max 1 o = s at *
      have HB1 := Lib.hid hB1
      have HL2 := Lib.hid hl
      have HO := Lib.hid ho
      clear hBB h hB hcell hd hB0 hX hbad hB1 ho hl hb
      go_enter Try.func12, Try.ntmps12
      go_wp2_with (go_at_call 21; refine (HL.out _).mono ?_; rintro e w' ⟨rfl, rfl⟩)
      go_quiet (fail)
      go_wp2
      refine wp_loop (DecInv (.slice (some ⟨bl, off, none⟩) B.length cap) B s X w) (fun a _ => 7 - (intOf (a.tmps.getD 6 undef)).toNat) ?_ ?_
      · refine ⟨rfl, rfl, rfl, rfl, 1, n0, by omega, hs1, HB1.out, by omega, ?_, rfl, HX.out.symm, _, rfl⟩
        rfl
      · rintro ⟨tm, df⟩ w1 ⟨rfl, hs, h0, h3, i, n, hi1, his, hiB, hnb, h2, h6, hX, k1, rfl⟩
        simp only at hs h0 h2 h3 h6
        obtain ⟨f, hf, hg⟩ := fr_open hs
        have e0 := hg _ _ h0
        have e2 := hg _ _ h2
        have e3 := hg _ _ h3
        have e6 := hg _ _ h6
        simp only [List.range, List.range.loop, List.map] at hf
        rw [e0, e2, e3, e6] at hf
        clear e0 e2 e3 e6 hg hs h0 h2 h3 h6
        subst hf
        have hnl := pow_lim i (by omega)
        have hn2 : (n : Int) < 8796093022208 := by omega
        have HNB := Lib.hid hnb
        clear hnb hnl
        by_cases hlt : i < s
        · have hli : (i : Int) < (s : Int) := by omega
          by_cases hlb : i = B.length
          · have hX2 := tl_last s n i B hlt hlb
            rw [← hX] at hX2
            have HP : Hid (∀ e k, e = Ending.returned (.tuple #[.int .i64 0, .int .i64 0, .int .i64 2]) → DecIs (fin s X) w e (w.drewN k)) := Lib.hid (fun e k he => ⟨by rw [he, hX2]; rfl, k, rfl⟩)
            have hbl : ((i : Int) == (B.length : Int)) = true := by simp [hlb]
            clear hX hX2 hlb hlt
            go_wp2
            go_ret3
            exact HP.out _ _ rfl
          · have hbl : ((i : Int) == (B.length : Int)) = false := by simp; omega
            have hib : (i : Int) < (B.length : Int) := by omega
            have hX2 := tl_next s n i B hlt (by omega)
            rw [← hX] at hX2
            have hci := HCELL.out i (by omega)
            have hc : B.getD i 0 < 256 := by
              refine HBB.out _ ?_
              rw [List.getD_eq_getElem?_getD, List.getElem?_eq_getElem (show i < B.length by omega)]
              exact List.getElem_mem _
            have hA := andNot63 ⟨B.getD i 0, hc⟩
            have hA2 := and63 _ hc
            simp only at hA
            generalize B.getD i 0 = c at *
            have hci2 : (c : Int) < 256 := by omega
            have HNX := pow_step n i c HNB.out
            by_cases hc2 : c / 64 = 2
            · rw [if_pos hc2] at hX2
              rw [hc2] at hA
              have HX2 := Lib.hid hX2
              have HNX := Lib.hid HNX
              have hA3 : bits .andNot .u8 (c : Int) 63 = 128 := hA
              have HLT := Lib.hid hlt
              have HLB := Lib.hid hlb
              clear hX hX2 hlb hlt hA hc2 hc
              go_wp2
              refine ⟨⟨rfl, rfl, rfl, rfl, i + 1, n * 64 + c % 64, by omega, HLT.out, ?_, HNX.out, ?_, rfl, HX2.out, _, rfl⟩, ?_⟩
              · have := HLB.out; omega
              · rw [← or_sixes n c (by omega)]
                rfl
              · have := HLT.out
                simp [intOf]; omega
            · rw [if_neg hc2] at hX2
              have HP : Hid (∀ e k, e = Ending.returned (.tuple #[.int .i64 0, .int .i64 0, .int .i64 5]) → DecIs (fin s X) w e (w.drewN k)) := Lib.hid (fun e k he => ⟨by rw [he, hX2]; rfl, k, rfl⟩)
              have hA3 : (bits .andNot .u8 (c : Int) 63 != 128) = true := by rw [hA]; simp; omega
              clear hX hX2 hlb hlt hA hc2 hc
              go_wp2
              go_ret3
              exact HP.out _ _ rfl
        · have hie : i = s := by omega
          have hX2 : X = (n, 0) := by rw [hX, hie, Nat.sub_self]; rfl
          have hli : ¬ (i : Int) < (s : Int) := by omega
          have HS := Lib.hid (nsize_any (n : Int))
          by_cases hsz : szn n = s
          · have HP : Hid (∀ e k, e = Ending.returned (.tuple #[.int .i64 (n : Int), .int .i64 (s : Int), .int .i64 0]) → DecIs (fin s X) w e (w.drewN k)) := Lib.hid (fun e k he => ⟨by rw [he, hX2]; simp [fin, hsz], k, rfl⟩)
            rw [hsz] at HS
            clear hX hX2 hie hsz
            go_wp2_with (go_at_call 15; refine (HS.out _).mono ?_; rintro e w' ⟨rfl, rfl⟩)
            go_ret3
            exact HP.out _ _ rfl
          · have HP : Hid (∀ e k, e = Ending.returned (.tuple #[.int .i64 0, .int .i64 0, .int .i64 5]) → DecIs (fin s X) w e (w.drewN k)) := Lib.hid (fun e k he => ⟨by rw [he, hX2]; simp [fin, hsz], k, rfl⟩)
            have hne : (((szn n : Nat) : Int) != (s : Int)) = true := by simp; omega
            generalize szn n = z at *
            clear hX hX2 hie hsz
            go_wp2_with (go_at_call 15; refine (HS.out _).mono ?_; rintro e w' ⟨rfl, rfl⟩)
            go_ret3
            exact HP.out _ _ rfl

end Go.Proofs.Ytipbldajpdacdaa
