/- Contracts of package number: sizes, runes, bytes. -/
import Derived.Test.YtipbldajpdacdaaKit
import Derived.Test.YtipbldajpdacdaaNumMath
import Derived.Deep.OwnRows
namespace Go.Proofs.Ytipbldajpdacdaa
open Go.RowKit Bx Nm

set_option maxHeartbeats 400000 in
theorem room_any (s : Nat) (w : World) (h : s ≤ 7) : Calls Try.prog 22 #[.int .i64 (s : Int)] w fun e w' => e = .returned (.int .i64 ((rm s : Nat) : Int)) ∧ w = w' := by
  by_cases h1 : s = 1
  · subst h1
    go_enter Try.func22, Try.ntmps22
    go_wp2
    go_ret
    exact ⟨rfl, rfl⟩
  · have e : rm s = 5 * s + 1 := by simp [rm, h1]
    have ht : ((s : Int) == 1) = false := by simp; omega
    have hn : ¬ (s : Int) = 1 := by omega
    rw [e]
    clear e
    go_enter Try.func22, Try.ntmps22
    go_wp2
    go_ret
    exact ⟨rfl, rfl⟩

theorem more_bits (n s : Nat) (h : n < 68719476736) (h1 : 1 ≤ s) (h2 : s ≤ szn n) : (0 < (n : Int) / 2 ^ rm s) = (s < szn n) := by
  have hs : s = 1 ∨ s = 2 ∨ s = 3 ∨ s = 4 ∨ s = 5 ∨ s = 6 ∨ s = 7 := by have := szn_le n; omega
  have := szn_split n h
  rcases hs with rfl | rfl | rfl | rfl | rfl | rfl | rfl <;> simp [rm] <;> omega

def SizeInv (n : Nat) (w : World) (a : Act) (w' : World) : Prop :=
  a.defers = [] ∧ a.tmps.size = 18 ∧ a.tmps[0]? = some (.int .i64 (n : Int)) ∧ ∃ s : Nat, 1 ≤ s ∧ s ≤ szn n ∧ a.tmps[3]? = some (.int .i64 (s : Int)) ∧ w = w'

set_option maxHeartbeats 400000 in
theorem nsize_any (n : Int) (w : World) : Calls Try.prog 15 #[.int .i64 n] w fun e w' => e = .returned (.int .i64 ((szn n : Nat) : Int)) ∧ w = w' := by
  have hz := szn_zero n
  by_cases hn : n < 0 ∨ 68719476735 < n
  · rw [show szn n = 0 from hz.2 hn]
    clear hz
    go_enter Try.func15, Try.ntmps15
    go_wp2
    all_goals
      go_ret
      exact ⟨rfl, rfl⟩
  · obtain ⟨n, rfl⟩ := Int.eq_ofNat_of_zero_le (show 0 ≤ n by omega)
    have hlt : n < 68719476736 := by omega
    have hp := szn_pos n hlt
    have hle := szn_le n
    have HLT := Lib.hid hlt
    have HP := Lib.hid hp
    have HLE := Lib.hid hle
    have hi1 : ¬ (n : Int) < 0 := by omega
    have hi2 : ¬ 68719476735 < (n : Int) := by omega
    clear hz hlt hp hle hn
    go_enter Try.func15, Try.ntmps15
    go_wp2
    refine wp_loop (SizeInv n w) (fun a _ => 7 - (intOf (a.tmps.getD 3 undef)).toNat) ?_ ?_
    · exact ⟨rfl, rfl, rfl, 1, by omega, HP.out, rfl, rfl⟩
    · rintro ⟨tm, df⟩ w1 ⟨rfl, hs, h0, s, hs1, hs2, h3, rfl⟩
      simp only at hs h0 h3
      obtain ⟨f, hf, hg⟩ := fr_open hs
      have e0 := hg _ _ h0
      have e3 := hg _ _ h3
      simp only [List.range, List.range.loop, List.map] at hf
      rw [e0, e3] at hf
      clear e0 e3 hg hs h0 h3
      subst hf
      have hm := more_bits n s HLT.out hs1 hs2
      have hs7 := HLE.out
      by_cases hlt2 : s < szn n
      · have hm2 : 0 < (n : Int) / 2 ^ rm s := by rw [hm]; exact hlt2
        have hr : rm s ≤ 36 := by unfold rm; split <;> omega
        clear hm
        go_wp2_with (go_at_call 22; refine (room_any _ _ (by omega)).mono ?_; rintro e w' ⟨rfl, rfl⟩)
        refine ⟨⟨rfl, rfl, rfl, s + 1, by omega, hlt2, rfl, rfl⟩, ?_⟩
        simp [intOf]; omega
      · have hm3 : ¬ 0 < (n : Int) / 2 ^ rm s := by rw [hm]; exact hlt2
        have hm2 : (n : Int) / 2 ^ rm s = 0 := by
          have : 0 ≤ (n : Int) / 2 ^ rm s := Int.ediv_nonneg (by omega) (Int.le_of_lt (Int.pow_pos (by decide)))
          omega
        have hr : rm s ≤ 36 := by unfold rm; split <;> omega
        have HE := Lib.hid (show s = szn n by omega)
        clear hm hlt2 hm3
        go_wp2_with (go_at_call 22; refine (room_any _ _ (by omega)).mono ?_; rintro e w' ⟨rfl, rfl⟩)
        go_ret
        exact ⟨ret_int (by rw [HE.out]), rfl⟩

/-- Whether a number is a rune. -/
def runeq (n : Int) : Bool := decide (n ≤ 1114111) && (decide (n < 55296) || decide (57343 < n))

set_option maxHeartbeats 400000 in
theorem validRune_any (n : Int) (w : World) (h0 : 0 ≤ n) (h1 : n ≤ 1114111) : Calls Try.prog 24 #[.int .i32 n] w fun e w' => e = .returned (.bool (runeq n)) ∧ w = w' := by
  by_cases h2 : n < 55296
  · have e : runeq n = true := by simp [runeq, h1, h2]
    rw [e]
    clear e
    go_enter Try.func24, Try.ntmps24
    go_wp2
    go_ret
    exact ⟨rfl, rfl⟩
  · by_cases h3 : 57343 < n
    · have e : runeq n = true := by simp [runeq, h1, h3]
      rw [e]
      clear e
      go_enter Try.func24, Try.ntmps24
      go_wp2
      go_ret
      exact ⟨rfl, rfl⟩
    · have e : runeq n = false := by simp [runeq, h2, h3]
      rw [e]
      clear e
      go_enter Try.func24, Try.ntmps24
      go_wp2
      go_ret
      exact ⟨rfl, rfl⟩

set_option maxHeartbeats 400000 in
theorem isRune_any (n : Int) (w : World) (h0 : 0 ≤ n) : Calls Try.prog 17 #[.int .i64 n] w fun e w' => e = .returned (.bool (runeq n)) ∧ w = w' := by
  by_cases h1 : n ≤ 1114111
  · have HV := Lib.hid (validRune_any n w h0 h1)
    have e32 : IntKind.i32.wrap n = n := by rw [IntKind.wrap_i32]; omega
    generalize runeq n = q at *
    go_enter Try.func17, Try.ntmps17
    go_wp2_with (go_at_call 24; refine HV.out.mono ?_; rintro e w' ⟨rfl, rfl⟩)
    go_ret
    exact ⟨rfl, rfl⟩
  · have e : runeq n = false := by simp [runeq, h1]
    rw [e]
    clear e
    go_enter Try.func17, Try.ntmps17
    go_wp2_with (fail)
    go_ret
    exact ⟨rfl, rfl⟩

/-- A row of bytes of the call's own, that is new. -/
def RowPost (base : Nat) (w : World) (B : List Nat) (e : Ending) (w' : World) : Prop :=
  ∃ v', e = .returned v' ∧ w'.ownsRow base 5 1 v' B.length (u8s B) ∧ Kept Nix w w' ∧ ∀ k, v'.ownBlock = some k → w.heap.size ≤ k

theorem src_lit (w : World) (xs : List Value) (t : TypeId) (h1 : ∀ u ∈ xs, u.oneCell' = true) : SrcIs (w.alloc (.cells xs.toArray t)) 1 (some ⟨w.heap.size, 0, none⟩) xs.length xs.length xs := by
  refine ⟨by simp, fun h => by simp at h, ?_, h1⟩
  rintro ad h j u hu
  obtain rfl := Option.some.inj h
  have := cell_of (i := j) (heap_alloc_new w (.cells xs.toArray t))
  rw [Addr.add_lit, Nat.zero_add, this]
  simpa using hu

theorem base_alloc {base : Nat} {w : World} {o : Obj} (h : base ≤ w.heap.size) : base ≤ (w.alloc o).heap.size := by simp; omega

/-- What an append of new bytes onto nothing leaves. -/
theorem row_of_app {base : Nat} {w w1 : World} {v1 : Value} {xs : List Value} {B : List Nat} {m : Nat} {o : Obj} (ho : w1.ownsRow base 5 1 v1 m xs) (hg : (w.alloc o).grownBy w1 (Value.slice none 0 0).ownBlock)
    (hv : v1.ownBlock = (Value.slice none 0 0).ownBlock ∨ v1.ownBlock = some (w.heap.size + 1)) (hx : xs = u8s B) : RowPost base w B (.returned v1) w1 := by
  subst hx
  have hl : B.length = m := by have := ho.1; simp [u8s_length] at this; omega
  refine ⟨v1, rfl, by simpa [hl] using ho, ((Kept.refl _ w).alloc _).grown hg (fun k hk => by simp [Value.ownBlock] at hk), fun k hk => ?_⟩
  rcases hv with h | h
  · rw [h] at hk; simp [Value.ownBlock] at hk
  · rw [h] at hk; simp at hk; omega

theorem szn_of (n s : Nat) (h : n < 128 ∧ s = 1 ∨ 128 ≤ n ∧ n < 2048 ∧ s = 2 ∨ 2048 ≤ n ∧ n < 65536 ∧ s = 3 ∨ 65536 ≤ n ∧ n < 2097152 ∧ s = 4) : szn n = s := by
  unfold szn
  repeat' split
  all_goals omega

set_option maxHeartbeats 1000000 in
theorem appendNA_any (base n : Nat) (w : World) (hn : runeq n = true) (h2 : 128 ≤ n) (hb : base ≤ w.heap.size) : Calls Try.prog 25 #[.slice none 0 0, .int .i32 (n : Int)] w (RowPost base w (enc n)) := by
  have hr : (n : Int) < 55296 ∨ 57343 < (n : Int) ∧ (n : Int) ≤ 1114111 := by simp [runeq] at hn; omega
  have e32 : IntKind.u32.wrap n = n := by rw [IntKind.wrap_u32]; omega
  have H2 := Lib.hid h2
  have i2 : ¬ (n : Int) ≤ 127 := by omega
  have i9 : (n : Int) ≤ 1114111 := by omega
  clear h2
  by_cases h3 : (n : Int) ≤ 2047
  · have e : enc n = [192 + n / 64, 128 + n % 64] := by unfold enc; rw [szn_of n 2 (by have := H2.out; omega), encs2]
    rw [e]
    clear e hn hr
    go_enter Try.func25, Try.ntmps25
    go_wp2_with (at_builtin; refine wpList_app _ rfl (.tmp 14) (.tmp 23) 22 rfl base 5 (.int .u8 0) 1 1 Try.underlying22 info_u8 rfl (by decide) (.slice none 0 0) 0 [] rfl (World.ownsRow_nil _ _ _ _) _ 2 2 [_, _] rfl (src_lit w [_, _] 5 ?_) ?_ ?_ ?_ ?_)
    · simp [Value.oneCell']
    · simp [maxLen]
    · omega
    · intro v1 w1 ho1 hg1 hv1
      have R := row_of_app (B := [192 + n / 64, 128 + n % 64]) ho1 hg1 hv1 (by simp [u8s] <;> omega)
      go_wp2
      go_ret
      exact R
  · by_cases h4 : (n : Int) ≤ 65535
    · have e : enc n = [224 + n / 4096, 128 + n / 64 % 64, 128 + n % 64] := by unfold enc; rw [szn_of n 3 (by have := H2.out; omega), encs3]
      by_cases h5 : (n : Int) < 55296
      · skip
        rw [e]
        clear e hn hr
        go_enter Try.func25, Try.ntmps25
        go_wp2_with (at_builtin; refine wpList_app _ rfl (.tmp 34) (.tmp 48) 22 rfl base 5 (.int .u8 0) 1 1 Try.underlying22 info_u8 rfl (by decide) (.slice none 0 0) 0 [] rfl (World.ownsRow_nil _ _ _ _) _ 3 3 [_, _, _] rfl (src_lit w [_, _, _] 5 ?_) ?_ ?_ ?_ ?_)
        · simp [Value.oneCell']
        · simp [maxLen]
        · omega
        · intro v1 w1 ho1 hg1 hv1
          have R := row_of_app (B := [224 + n / 4096, 128 + n / 64 % 64, 128 + n % 64]) ho1 hg1 hv1 (by simp [u8s] <;> omega)
          go_wp2
          go_ret
          exact R
      · have h6 : 57343 < (n : Int) := by omega
        rw [e]
        clear e hn hr
        go_enter Try.func25, Try.ntmps25
        go_wp2_with (at_builtin; refine wpList_app _ rfl (.tmp 34) (.tmp 48) 22 rfl base 5 (.int .u8 0) 1 1 Try.underlying22 info_u8 rfl (by decide) (.slice none 0 0) 0 [] rfl (World.ownsRow_nil _ _ _ _) _ 3 3 [_, _, _] rfl (src_lit w [_, _, _] 5 ?_) ?_ ?_ ?_ ?_)
        · simp [Value.oneCell']
        · simp [maxLen]
        · omega
        · intro v1 w1 ho1 hg1 hv1
          have R := row_of_app (B := [224 + n / 4096, 128 + n / 64 % 64, 128 + n % 64]) ho1 hg1 hv1 (by simp [u8s] <;> omega)
          go_wp2
          go_ret
          exact R
    · have e : enc n = [240 + n / 262144, 128 + n / 4096 % 64, 128 + n / 64 % 64, 128 + n % 64] := by unfold enc; rw [szn_of n 4 (by have := H2.out; omega), encs4]
      have h5 : ¬ (n : Int) < 55296 := by omega
      have h6 : 57343 < (n : Int) := by omega
      have h7 : 65535 < (n : Int) := by omega
      rw [e]
      clear e hn hr
      go_enter Try.func25, Try.ntmps25
      go_wp2_with (at_builtin; refine wpList_app _ rfl (.tmp 57) (.tmp 76) 22 rfl base 5 (.int .u8 0) 1 1 Try.underlying22 info_u8 rfl (by decide) (.slice none 0 0) 0 [] rfl (World.ownsRow_nil _ _ _ _) _ 4 4 [_, _, _, _] rfl (src_lit w [_, _, _, _] 5 ?_) ?_ ?_ ?_ ?_)
      · simp [Value.oneCell']
      · simp [maxLen]
      · omega
      · intro v1 w1 ho1 hg1 hv1
        have R := row_of_app (B := [240 + n / 262144, 128 + n / 4096 % 64, 128 + n / 64 % 64, 128 + n % 64]) ho1 hg1 hv1 (by simp [u8s] <;> omega)
        go_wp2
        go_ret
        exact R

set_option maxHeartbeats 400000 in
theorem appendRune_any (base n : Nat) (w : World) (hn : runeq n = true) (hb : base ≤ w.heap.size) : Calls Try.prog 18 #[.slice none 0 0, .int .i32 (n : Int)] w (RowPost base w (enc n)) := by
  have hr : n < 55296 ∨ 57343 < n ∧ n ≤ 1114111 := by simp [runeq] at hn; omega
  have e32 : IntKind.u32.wrap n = n := by rw [IntKind.wrap_u32]; omega
  by_cases h1 : n < 128
  · have e : enc n = [n] := by unfold enc; rw [szn_of n 1 (by omega), encs1]
    rw [e]
    go_enter Try.func18, Try.ntmps18
    go_wp2_with (at_builtin; refine wpList_app _ rfl (.tmp 8) (.tmp 11) 22 rfl base 5 (.int .u8 0) 1 1 Try.underlying22 info_u8 rfl (by decide) (.slice none 0 0) 0 [] rfl (World.ownsRow_nil _ _ _ _) _ 1 1 [_] rfl (src_lit w [_] 5 ?_) ?_ ?_ ?_ ?_)
    · simp [Value.oneCell']
    · simp [maxLen]
    · decide
    · exact base_alloc hb
    · intro v1 w1 ho1 hg1 hv1
      have R := row_of_app (B := [n]) ho1 hg1 hv1 (by simp [u8s])
      go_wp2
      go_ret
      exact R
  · have HA := Lib.hid (appendNA_any base n w hn (by omega) hb)
    go_enter Try.func18, Try.ntmps18
    go_wp2_with (fail)
    refine HA.out.mono ?_
    rintro e w1 ⟨v1, rfl, h⟩
    obtain ⟨ao, cap, rfl, hc', hm'⟩ := owns_shape h.1
    go_wp2
    go_ret
    exact ⟨_, rfl, h⟩

end Go.Proofs.Ytipbldajpdacdaa
