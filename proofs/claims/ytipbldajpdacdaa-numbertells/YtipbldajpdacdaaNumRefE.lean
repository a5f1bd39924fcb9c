/- The contract of the reference's Encode. -/
import Derived.Test.YtipbldajpdacdaaNumRef
namespace Go.Proofs.Ytipbldajpdacdaa
open Go.RowKit Bx Nm

def REncInv (n s : Nat) (w : World) (a : Act) (w' : World) : Prop :=
  a.defers = [] ∧ a.tmps.size = 33 ∧ a.tmps[4]? = some (.int .i64 (s : Int)) ∧ ∃ i m : Nat, ∃ vo, 1 ≤ i ∧ i ≤ s ∧ m = n / 64 ^ (i - 1) ∧ a.tmps[0]? = some (.int .i64 (m : Int)) ∧ a.tmps[6]? = some (.int .i64 (i : Int)) ∧ a.tmps[5]? = some vo ∧
    Sl w' vo (u8s (conts (i - 1) n)) ∧ Kept Nix w w'

/-- What an append onto one new byte leaves. -/
theorem row_of_one {w w1 w2 : World} {base : Nat} {v : Value} {x : Nat} {B : List Nat} {z : Int} (hz : z = (x : Int)) (hk : Kept Nix w w1) (ho : w2.ownsRow base 5 1 v (1 + B.length) ([.int .u8 z] ++ u8s B)) (hg : (w1.alloc (.cells #[.int .u8 z] 5)).grownBy w2 (some w1.heap.size)) :
    w2.ownsRow base 5 1 v (x :: B).length (u8s (x :: B)) ∧ Kept Nix w w2 := by
  subst hz
  refine ⟨?_, (hk.alloc _).grown hg (fun k hk' => .inr ?_)⟩
  · have e : (x :: B).length = 1 + B.length := by simp; omega
    rw [e]
    exact ho
  · have := hk.size
    simp only [Option.some.injEq] at hk'
    omega

theorem lead_top (n : Nat) (h : n < 68719476736) : lead (szn n) + n / 64 ^ (szn n - 1) < 256 := enc_lt n h _ (by simp [enc, encs])

set_option maxHeartbeats 1000000 in
theorem refEncode_any (n : Int) (w : World) : Calls Try.prog 11 #[.int .i64 n] w (EncPost w.heap.size w n) := by
  have hz := szn_zero n
  have HS := Lib.hid (refSize_any n w)
  by_cases h0 : szn n = 0
  · have HP : Hid (∀ v er w', v = .slice none 0 0 → er = 6 → Kept Nix w w' → EncPost w.heap.size w n (.returned (.tuple #[v, .int .i64 er])) w') := Lib.hid (fun v er w' e1 e2 k => ⟨v, er, rfl, k, fun _ => ⟨e1, e2⟩, fun h => absurd h0 h⟩)
    rw [h0] at HS
    clear h0 hz
    go_enter Try.func11, Try.ntmps11
    go_wp2_with fail
    refine HS.out.mono ?_
    rintro e w1 ⟨rfl, k1⟩
    go_wp2_with fail
    go_ret2
    exact HP.out _ _ _ rfl rfl k1
  · obtain ⟨n, rfl⟩ := Int.eq_ofNat_of_zero_le (show 0 ≤ n by omega)
    have hlt : n < 68719476736 := by omega
    have henc : enc n = (lead (szn n) + n / 64 ^ (szn n - 1)) :: conts (szn n - 1) n := rfl
    have HP : Hid (∀ v w' e', w'.ownsRow w.heap.size 5 1 v ((lead (szn n) + n / 64 ^ (szn n - 1)) :: conts (szn n - 1) n).length (u8s ((lead (szn n) + n / 64 ^ (szn n - 1)) :: conts (szn n - 1) n)) → Kept Nix w w' → e' = Ending.returned (.tuple #[v, .int .i64 0]) → EncPost w.heap.size w n e' w') := Lib.hid (fun v w' e' h k e => by
      rw [← henc] at h
      exact ⟨v, 0, e, k, fun h => absurd h h0, fun _ => ⟨rfl, h, fun k hk => (h.lt k hk).1⟩⟩)
    have hlb := lead_top n hlt
    have HLB := Lib.hid hlb
    have hs7 := szn_le n
    have hs1 := szn_pos n hlt
    have hsz2 : (((szn n : Nat) : Int) == 0) = false := by simp; omega
    have hn2 : (n : Int) < 68719476736 := by omega
    clear h0 hz hlt henc hlb
    generalize szn n = s at *
    go_enter Try.func11, Try.ntmps11
    go_wp2_with fail
    refine HS.out.mono ?_
    rintro e w1 ⟨rfl, k1⟩
    go_wp2_with fail
    refine wp_loop (REncInv n s w) (fun a _ => s - (intOf (a.tmps.getD 6 undef)).toNat) ?_ ?_
    · exact ⟨rfl, rfl, rfl, 1, n, _, Nat.le_refl _, hs1, by simp, rfl, rfl, rfl, ⟨none, 0, rfl, Nat.le_refl _, by simp [maxLen], fun _ => rfl, fun h => by simp [conts, u8s] at h⟩, k1⟩
    · clear k1
      rintro ⟨tm, df⟩ w2 ⟨rfl, hs, h4, i, m, vo, hi1, his, hm, h0, h6, h5, hsl, k2⟩
      simp only at hs h0 h4 h5 h6
      obtain ⟨f, hf, hg⟩ := fr_open hs
      have e0 := hg _ _ h0
      have e4 := hg _ _ h4
      have e5 := hg _ _ h5
      have e6 := hg _ _ h6
      simp only [List.range, List.range.loop, List.map] at hf
      rw [e0, e4, e5, e6] at hf
      clear e0 e4 e5 e6 hg hs h0 h4 h5 h6
      subst hf
      obtain ⟨ao, cap, es, src⟩ := src_of_sl hsl (u8s_one _)
      rw [u8s_length, conts_length] at es src
      subst es
      have hmn : (m : Int) ≤ (n : Int) := by
        have : m ≤ n := by rw [hm]; exact Nat.div_le_self _ _
        omega
      have hm2 : (m : Int) < 68719476736 := by omega
      have HM := Lib.hid hm
      have hi7 : (i : Int) ≤ 7 := by omega
      have HSL := Lib.hid hsl
      have HSRC := Lib.hid src
      clear hm hmn hsl src
      by_cases hlt : i < s
      · have hd : decide (i < s) = true := by simpa using hlt
        have HI := Lib.hid hlt
        clear hlt
        go_wp2_with (at_builtin; refine wpList_app _ rfl (.tmp 20) (.tmp 21) 22 rfl w.heap.size 5 (.int .u8 0) 1 1 Try.underlying22 info_u8 rfl (by decide) (.slice (some ⟨w2.heap.size, 0, none⟩) 1 1) 1 [_] rfl (World.ownsRow_lit w2 #[_] 1 k2.size (by simp [maxLen]) rfl) _ (i - 1) _ (u8s (conts (i - 1) n)) rfl (HSRC.out.alloc _) ?_ ?_ ?_ ?_)
        · simp only [maxLen]; omega
        · omega
        · simp; have := k2.size; omega
        · intro v3 w3 o3 g3 _
          have R := row_of_one (x := 128 + m % 64) (B := conts (i - 1) n) (by omega) k2 (by rw [conts_length, show 1 + (i - 1) = i by omega]; exact o3) g3
          have hcc := conts_cons (i - 1) n
          rw [← HM.out, show i - 1 + 1 = i by omega] at hcc
          rw [← hcc] at R
          have R := Lib.hid R
          clear o3 g3 hcc
          go_wp2_with fail
          refine ⟨⟨rfl, rfl, rfl, i + 1, m / 64, v3, by omega, HI.out, ?_, rfl, rfl, rfl, sl_of_owns R.out.1, R.out.2⟩, ?_⟩
          · rw [HM.out, Nat.div_div_eq_div_mul, ← Nat.pow_succ]
            congr 2
            omega
          · have := HI.out
            simp [intOf]; omega
      · obtain rfl : i = s := by omega
        have hd : decide (i < i) = false := by simp
        clear hlt
        have HLE := Lib.hid (fun w => refLead_any i w hs7)
        have hlb := HLB.out
        rw [← HM.out] at hlb
        have hl2 : ((lead i : Nat) : Int) + (m : Int) < 256 := by omega
        clear hlb
        rw [← HM.out] at HP
        generalize lead i = ld at *
        go_wp2_with fail
        refine (HLE.out _).mono ?_
        rintro e w3 ⟨rfl, k3⟩
        have SRC3 := src_of_sl (HSL.out.nix k3) (u8s_one _)
        obtain ⟨ao3, cap3, es, src3⟩ := SRC3
        rw [u8s_length, conts_length] at es src3
        simp only [Value.slice.injEq] at es
        obtain ⟨rfl, _, rfl⟩ := es
        have HSRC3 := Lib.hid src3
        clear src3
        go_wp2_with (at_builtin; refine wpList_app _ rfl (.tmp 30) (.tmp 31) 22 rfl w.heap.size 5 (.int .u8 0) 1 1 Try.underlying22 info_u8 rfl (by decide) (.slice (some ⟨w3.heap.size, 0, none⟩) 1 1) 1 [_] rfl (World.ownsRow_lit w3 #[_] 1 (nix_trans k2 k3).size (by simp [maxLen]) rfl) _ (i - 1) _ (u8s (conts (i - 1) n)) rfl (HSRC3.out.alloc _) ?_ ?_ ?_ ?_)
        · simp only [maxLen]; omega
        · omega
        · simp; have := (nix_trans k2 k3).size; omega
        · intro v4 w4 o4 g4 _
          have R := Lib.hid (row_of_one (x := ld + m) (B := conts (i - 1) n) (by omega) (nix_trans k2 k3) (by rw [conts_length, show 1 + (i - 1) = i by omega]; exact o4) g4)
          clear o4 g4
          go_wp2_with fail
          go_ret2
          exact HP.out _ _ _ R.out.1 R.out.2 rfl

end Go.Proofs.Ytipbldajpdacdaa
