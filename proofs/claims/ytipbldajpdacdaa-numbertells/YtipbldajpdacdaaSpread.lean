/- Contracts of package number: bytes that are no rune's; the bytes of a number. -/
import Derived.Test.YtipbldajpdacdaaNumber
namespace Go.Proofs.Ytipbldajpdacdaa
open Go.RowKit Bx Nm

theorem made_u8 (n : Nat) : madeCells #[Value.int .u8 0] n = (u8s (List.replicate n 0)).toArray := by
  apply Array.ext
  · simp [size_madeCells, u8s]
  · intro i h1 h2
    simp [madeCells, u8s, Nat.mod_one]

theorem u8s_set (L : List Nat) (i b : Nat) : (u8s L).toArray.setIfInBounds i (.int .u8 (b : Int)) = (u8s (L.set i b)).toArray := by
  simp [u8s, List.map_set]

theorem conts_cons (k m : Nat) : conts (k + 1) m = (128 + m / 64 ^ k % 64) :: conts k m := by
  induction k generalizing m with
  | zero => simp [conts]
  | succ k ih => rw [conts, ih, conts]; simp [Nat.pow_succ, Nat.div_div_eq_div_mul, Nat.mul_comm]

/-- The bytes that are laid so far, from behind. -/
def laid (s i n : Nat) : List Nat := List.replicate (i + 1) 0 ++ conts (s - 1 - i) n

theorem laid_length (s i n : Nat) (h : i < s) : (laid s i n).length = s := by simp [laid, conts_length]; omega

theorem laid_set (s i n : Nat) (h0 : 0 < i) (h : i < s) : (laid s i n).set i (128 + n / 64 ^ (s - 1 - i) % 64) = laid s (i - 1) n := by
  unfold laid
  rw [show s - 1 - (i - 1) = s - 1 - i + 1 by omega, conts_cons, show i - 1 + 1 = i by omega, List.replicate_succ']
  simp [List.append_assoc]

theorem top_lt (n s : Nat) (h : szn n = s) (hn : 128 ≤ n) (hn2 : n < 68719476736) (h2 : 2 ≤ s) (h7 : s ≤ 7) : n / 64 ^ (s - 1) < 2 ^ (7 - s) := by
  have hs : s = 2 ∨ s = 3 ∨ s = 4 ∨ s = 5 ∨ s = 6 ∨ s = 7 := by omega
  have := szn_split n hn2
  rcases hs with rfl | rfl | rfl | rfl | rfl | rfl <;> simp <;> omega

theorem lead_or (c : Int) (l m r : Nat) (hc : bits .xor .u8 (if IntKind.u8.signed = true then -1 else IntKind.u8.max) c = (l : Int)) (hl : l < 256) (hr : l % 2 ^ r = 0) (hm : m < 2 ^ r) (h8 : 2 ^ r ≤ 256) :
    bits .or .u8 (bits .xor .u8 (if IntKind.u8.signed = true then -1 else IntKind.u8.max) c) ((m : Int) % 256) = ((l + m : Nat) : Int) := by
  rw [hc, show (m : Int) % 256 = (m : Int) by omega, u8_or_nat _ _ hl (by omega), or_add _ _ r hr hm]

def SpreadInv (s n : Nat) (w : World) (a : Act) (w' : World) : Prop :=
  a.defers = [] ∧ a.tmps.size = 33 ∧ a.tmps[1]? = some (.int .i64 (s : Int)) ∧ a.tmps[5]? = some (.slice (some ⟨w.heap.size, 0, none⟩) s s) ∧
    ∃ i m : Nat, i < s ∧ m = n / 64 ^ (s - 1 - i) ∧ a.tmps[6]? = some (.int .i64 (i : Int)) ∧ a.tmps[0]? = some (.int .i64 (m : Int)) ∧
      w'.heap[w.heap.size]? = some (.cells (u8s (laid s i n)).toArray 5 (0, 0)) ∧ Kept Nix w w'

theorem spread_ends {base s n x : Nat} {w w1 : World} (hb : base ≤ w.heap.size) (hh : w1.heap[w.heap.size]? = some (.cells (u8s (laid s 0 n)).toArray 5 (0, 0))) (hk : Kept Nix w w1) (h2 : 2 ≤ s) (h7 : s ≤ 7) {z : Int} (hx : z = (x : Int)) :
    RowPost base w (x :: conts (s - 1) n) (.returned (.slice (some ⟨w.heap.size, 0, none⟩) s s)) (w1.setCell ⟨w.heap.size, 0, none⟩ (.int .u8 z)) := by
  subst hx
  have hl : (x :: conts (s - 1) n).length = s := by simp [conts_length]; omega
  refine ⟨_, rfl, ⟨by rw [u8s_length, Nat.mul_one], .inr ⟨w.heap.size, s, _, by rw [hl], hb, heap_set hh, by omega, by simp only [maxLen]; omega, ?_, ?_⟩⟩, hk.setCell (p := ⟨w.heap.size, 0, none⟩) (.inr (Nat.le_refl _)) _, fun k hk => ?_⟩
  · have := laid_length s 0 n (by omega)
    simp [u8s_length, this]
  · rw [u8s_set]
    rw [List.take_of_length_le (by have := laid_length s 0 n (by omega); rw [hl]; simp [u8s_length, this])]
    simp [laid]
  · simp [Value.ownBlock] at hk
    omega

set_option maxHeartbeats 1000000 in
theorem spread_any (base n : Nat) (w : World) (hn : 128 ≤ n) (hn2 : n < 68719476736) (hb : base ≤ w.heap.size) : Calls Try.prog 19 #[.int .i64 (n : Int), .int .i64 ((szn n : Nat) : Int)] w (RowPost base w (enc n)) := by
  have hs2 : 2 ≤ szn n := by have := szn_split n hn2; omega
  have hs7 := szn_le n
  have hmk := run_make_row' (P := Try.prog) 22 5 (.int .u8 0) 1 Try.underlying22 info_u8 rfl .i64 .i64 (szn n) (by omega) (by omega)
  have HT := Lib.hid (top_lt n (szn n) rfl hn hn2 hs2 hs7)
  have HN2 := Lib.hid hn2
  have henc : enc n = (lead (szn n) + n / 64 ^ (szn n - 1)) :: conts (szn n - 1) n := rfl
  rw [henc]
  clear henc hn hn2
  generalize szn n = s at *
  generalize hB : (lead s + n / 64 ^ (s - 1)) :: conts (s - 1) n = B
  have HB := Lib.hid hB
  clear hB
  rw [made_u8] at hmk
  go_enter Try.func19, Try.ntmps19
  go_wp2
  refine wp_loop (SpreadInv s n w) (fun a _ => (intOf (a.tmps.getD 6 undef)).toNat) ?_ ?_
  · refine ⟨rfl, rfl, rfl, rfl, s - 1, n, by omega, by simp, ?_, rfl, ?_, (Kept.refl _ w).alloc _⟩
    · rw [show ((s - 1 : Nat) : Int) = (s : Int) - 1 by omega]
      rfl
    · rw [heap_alloc_new]
      simp [laid, conts, show s - 1 + 1 = s by omega]
  · rintro ⟨tm, df⟩ w1 ⟨rfl, hs, h1, h5, i, m, hi, hm, h6, h0, hh, hk⟩
    simp only at hs h0 h1 h5 h6
    obtain ⟨f, hf, hg⟩ := fr_open hs
    have e0 := hg _ _ h0
    have e1 := hg _ _ h1
    have e5 := hg _ _ h5
    have e6 := hg _ _ h6
    simp only [List.range, List.range.loop, List.map] at hf
    rw [e0, e1, e5, e6] at hf
    clear e0 e1 e5 e6 hg hs h0 h1 h5 h6
    subst hf
    have hc := cell_of (i := i) hh
    rw [List.getElem?_toArray, u8s_get _ _ (by rw [laid_length s i n hi]; exact hi)] at hc
    have hz := frozen_of (i := i) hh
    have HM := Lib.hid hm
    have hmb : (m : Int) < 68719476736 := by
      have h1 : m ≤ n := by rw [hm]; exact Nat.div_le_self _ _
      have := HN2.out
      omega
    clear hm
    by_cases h0 : 0 < i
    · have hmb2 : 0 ≤ (m : Int) := by omega
      go_wp2
      refine ⟨⟨rfl, rfl, rfl, rfl, i - 1, m / 64, by omega, ?_, ?_, rfl, ?_, hk.setCell (p := ⟨w.heap.size, i, none⟩) (.inr (Nat.le_refl _)) _⟩, ?_⟩
      · rw [HM.out, Nat.div_div_eq_div_mul, show s - 1 - (i - 1) = s - 1 - i + 1 by omega, Nat.pow_succ]
      · rw [show ((i - 1 : Nat) : Int) = (i : Int) - 1 by omega]
        rfl
      · rw [heap_set hh, show (128 + (m : Int) % 64) = ((128 + m % 64 : Nat) : Int) by omega, u8s_set, HM.out, laid_set s i n h0 hi]
      · simp [intOf]; omega
    · have h00 : i = 0 := by omega
      have hc0 := cell_of (i := 0) hh
      rw [List.getElem?_toArray, u8s_get _ _ (by rw [laid_length s i n hi]; omega)] at hc0
      have hz0 := frozen_of (i := 0) hh
      have HR : Hid (∀ z : Int, z = ((lead s + m : Nat) : Int) → RowPost base w B (.returned (.slice (some ⟨w.heap.size, 0, none⟩) s s)) (w1.setCell ⟨w.heap.size, 0, none⟩ (.int .u8 z))) := Lib.hid (fun z hz5 => by
        have hm := HM.out
        subst h00
        have := spread_ends (base := base) (x := lead s + m) (z := z) hb hh hk hs2 hs7 hz5
        rw [show s - 1 - 0 = s - 1 by omega] at hm
        rwa [hm, HB.out] at this)
      have ht : m < 2 ^ (7 - s) := by
        have := HT.out
        have hm := HM.out
        subst h00
        rw [show s - 1 - 0 = s - 1 by omega] at hm
        rwa [hm]
      have hss : s = 2 ∨ s = 3 ∨ s = 4 ∨ s = 5 ∨ s = 6 ∨ s = 7 := by omega
      have h01 : ¬ 0 < (i : Int) := by omega
      clear hh hk h0 HM hi HT hmk HB hc hz h00
      obtain rfl : i = 0 := by omega
      clear h01
      simp only [Int.natCast_zero]
      go_upto_region 7 with fail
      rcases hss with rfl | rfl | rfl | rfl | rfl | rfl
      · have hz1 := lead_or 63 192 m 5 (by decide) (by decide) (by decide) (by simpa using ht) (by decide)
        have R := Lib.hid (HR.out _ hz1)
        clear ht hs2 hs7 HR hz1 hb HN2
        go_upto_region 8 with fail
        generalize bits .or .u8 (bits .xor .u8 (if IntKind.u8.signed = true then -1 else IntKind.u8.max) 63) ((m : Int) % 256) = z at *
        generalize bits .xor .u8 (if IntKind.u8.signed = true then -1 else IntKind.u8.max) 63 = y at *
        generalize (m : Int) % 256 = mm at *
        go_wp2
        go_ret
        exact R.out
      · have hz1 := lead_or 31 224 m 4 (by decide) (by decide) (by decide) (by simpa using ht) (by decide)
        have R := Lib.hid (HR.out _ hz1)
        clear ht hs2 hs7 HR hz1 hb HN2
        go_upto_region 8 with fail
        generalize bits .or .u8 (bits .xor .u8 (if IntKind.u8.signed = true then -1 else IntKind.u8.max) 31) ((m : Int) % 256) = z at *
        generalize bits .xor .u8 (if IntKind.u8.signed = true then -1 else IntKind.u8.max) 31 = y at *
        generalize (m : Int) % 256 = mm at *
        go_wp2
        go_ret
        exact R.out
      · have hz1 := lead_or 15 240 m 3 (by decide) (by decide) (by decide) (by simpa using ht) (by decide)
        have R := Lib.hid (HR.out _ hz1)
        clear ht hs2 hs7 HR hz1 hb HN2
        go_upto_region 8 with fail
        generalize bits .or .u8 (bits .xor .u8 (if IntKind.u8.signed = true then -1 else IntKind.u8.max) 15) ((m : Int) % 256) = z at *
        generalize bits .xor .u8 (if IntKind.u8.signed = true then -1 else IntKind.u8.max) 15 = y at *
        generalize (m : Int) % 256 = mm at *
        go_wp2
        go_ret
        exact R.out
      · have hz1 := lead_or 7 248 m 2 (by decide) (by decide) (by decide) (by simpa using ht) (by decide)
        have R := Lib.hid (HR.out _ hz1)
        clear ht hs2 hs7 HR hz1 hb HN2
        go_upto_region 8 with fail
        generalize bits .or .u8 (bits .xor .u8 (if IntKind.u8.signed = true then -1 else IntKind.u8.max) 7) ((m : Int) % 256) = z at *
        generalize bits .xor .u8 (if IntKind.u8.signed = true then -1 else IntKind.u8.max) 7 = y at *
        generalize (m : Int) % 256 = mm at *
        go_wp2
        go_ret
        exact R.out
      · have hz1 := lead_or 3 252 m 1 (by decide) (by decide) (by decide) (by simpa using ht) (by decide)
        have R := Lib.hid (HR.out _ hz1)
        clear ht hs2 hs7 HR hz1 hb HN2
        go_upto_region 8 with fail
        generalize bits .or .u8 (bits .xor .u8 (if IntKind.u8.signed = true then -1 else IntKind.u8.max) 3) ((m : Int) % 256) = z at *
        generalize bits .xor .u8 (if IntKind.u8.signed = true then -1 else IntKind.u8.max) 3 = y at *
        generalize (m : Int) % 256 = mm at *
        go_wp2
        go_ret
        exact R.out
      · have hz1 := lead_or 1 254 m 0 (by decide) (by decide) (by decide) (by simpa using ht) (by decide)
        have R := Lib.hid (HR.out _ hz1)
        clear ht hs2 hs7 HR hz1 hb HN2
        go_upto_region 8 with fail
        generalize bits .or .u8 (bits .xor .u8 (if IntKind.u8.signed = true then -1 else IntKind.u8.max) 1) ((m : Int) % 256) = z at *
        generalize bits .xor .u8 (if IntKind.u8.signed = true then -1 else IntKind.u8.max) 1 = y at *
        generalize (m : Int) % 256 = mm at *
        go_wp2
        go_ret
        exact R.out

/-- What Encode answers. -/
def EncPost (base : Nat) (w : World) (n : Int) (e : Ending) (w' : World) : Prop :=
  ∃ v er, e = .returned (.tuple #[v, .int .i64 er]) ∧ Kept Nix w w' ∧ (szn n = 0 → v = .slice none 0 0 ∧ er = 6) ∧
    (szn n ≠ 0 → er = 0 ∧ w'.ownsRow base 5 1 v (enc n.toNat).length (u8s (enc n.toNat)) ∧ ∀ k, v.ownBlock = some k → w.heap.size ≤ k)

set_option maxHeartbeats 400000 in
theorem encode_any (base : Nat) (n : Int) (w : World) (hb : base ≤ w.heap.size) : Calls Try.prog 10 #[.int .i64 n] w (EncPost base w n) := by
  have hz := szn_zero n
  have HS := Lib.hid (nsize_any n)
  by_cases h0 : szn n = 0
  · have HP : Hid (∀ v er, v = .slice none 0 0 → er = 6 → EncPost base w n (.returned (.tuple #[v, .int .i64 er])) w) := Lib.hid (fun v er e1 e2 => ⟨v, er, rfl, Kept.refl _ _, fun _ => ⟨e1, e2⟩, fun h => absurd h0 h⟩)
    rw [h0] at HS
    clear h0 hz
    go_enter Try.func10, Try.ntmps10
    go_wp2_with (go_at_call 15; refine (HS.out _).mono ?_; rintro e w' ⟨rfl, rfl⟩)
    go_ret2
    exact HP.out _ _ rfl rfl
  · obtain ⟨n, rfl⟩ := Int.eq_ofNat_of_zero_le (show 0 ≤ n by omega)
    have hlt : n < 68719476736 := by omega
    have HP : Hid (∀ v w' e', RowPost base w (enc n) (.returned v) w' → e' = Ending.returned (.tuple #[v, .int .i64 0]) → EncPost base w n e' w') := Lib.hid (fun v w' e' h e => by
      obtain ⟨v', e1, h1, h2, h3⟩ := h
      obtain rfl : v = v' := by injection e1
      exact ⟨v, 0, e, h2, fun h => absurd h h0, fun _ => ⟨rfl, h1, h3⟩⟩)
    have HI := Lib.hid (isRune_any (n : Int) w (by omega))
    have hsz : ((szn n : Nat) : Int) ≠ 0 := by omega
    have hsz2 : (((szn n : Nat) : Int) == 0) = false := by simpa using hsz
    by_cases hr : runeq n = true
    · have HA := Lib.hid (appendRune_any base n w hr hb)
      have hn9 : (n : Int) ≤ 1114111 := by simp [runeq] at hr; omega
      have e32 : IntKind.i32.wrap n = n := by rw [IntKind.wrap_i32]; omega
      rw [hr] at HI
      clear hr h0 hz hlt
      generalize szn n = s at *
      go_enter Try.func10, Try.ntmps10
      go_wp2_with (first
        | (go_at_call 15; refine (HS.out _).mono ?_; rintro e w' ⟨rfl, rfl⟩)
        | (go_at_call 17; refine (HI.out).mono ?_; rintro e w' ⟨rfl, rfl⟩)
        | (go_at_call 18; refine (HA.out).mono ?_; rintro e w' ⟨v1, rfl, h1⟩; have HV := Lib.hid h1; obtain ⟨ao, cap, rfl, _, _⟩ := owns_shape h1.1; clear h1))
      go_ret2
      exact HP.out _ _ _ ⟨_, rfl, HV.out⟩ rfl
    · have hr' : runeq n = false := by simpa using hr
      have hge : 128 ≤ n := by
        simp [runeq] at hr
        omega
      have HA := Lib.hid (spread_any base n w hge hlt hb)
      rw [hr'] at HI
      clear hr h0 hz hlt hr' hge
      generalize szn n = s at *
      go_enter Try.func10, Try.ntmps10
      go_wp2_with (first
        | (go_at_call 15; refine (HS.out _).mono ?_; rintro e w' ⟨rfl, rfl⟩)
        | (go_at_call 17; refine (HI.out).mono ?_; rintro e w' ⟨rfl, rfl⟩)
        | (go_at_call 19; refine (HA.out).mono ?_; rintro e w' ⟨v1, rfl, h1⟩; have HV := Lib.hid h1; obtain ⟨ao, cap, rfl, _, _⟩ := owns_shape h1.1; clear h1))
      go_ret2
      exact HP.out _ _ _ ⟨_, rfl, HV.out⟩ rfl

end Go.Proofs.Ytipbldajpdacdaa
