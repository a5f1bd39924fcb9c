/- bits.Len64, bits.Len: of numbers below 2^41. -/
import Derived.Test.YtdifaaimjiflgaaLagMath
import Derived.Lib.Strings
import Derived.Lib.Slices
import Derived.Lib.Small
import Derived.Lib.Walk
namespace Go.Proofs.Ytdifaaimjiflgaa
open Go.RowKit Bx

theorem tab_get (T : ByteArray) (i : Nat) (h : i < T.size) : (T[i]?).getD 0 = T[i] := by rw [getElem?_pos T i h, Option.getD_some]

theorem len8_at (y : Int) (h : y.toNat < Lib.len8tab.size) : ((Lib.len8tab[y.toNat]'h).toNat : Int) = Lib.len8 y := by
  unfold Lib.len8
  rw [tab_get]

theorem len_nums (k : Nat) (x y : Int) (hk : k ≤ 40) (hy : y = x / ((2 ^ k : Nat) : Int)) (hx0 : 0 ≤ x) (hx : x < 2199023255552) (hq1 : k = 0 ∨ ((2 ^ k : Nat) : Int) ≤ x) : Lib.bitLen x.toNat = k + Lib.bitLen y.toNat := by
  have hyn : y.toNat = x.toNat / 2 ^ k := by
    rw [hy]
    obtain ⟨x, rfl⟩ := Int.eq_ofNat_of_zero_le hx0
    rw [Int.toNat_natCast, ← Int.natCast_ediv, Int.toNat_natCast]
  rw [hyn]
  rcases hq1 with rfl | h1
  · simp
  · exact Lib.bitLen_shift k x.toNat (by generalize 2 ^ k = q at *; omega) (by omega)

/-- What is looked up, and k more. -/
theorem len_add (k : Nat) (x y T : Int) (hT : T = Lib.len8 y) (hk : k ≤ 40) (hy : y = x / ((2 ^ k : Nat) : Int)) (hx0 : 0 ≤ x) (hx : x < 2199023255552) (hy0 : 0 ≤ y) (hy1 : y ≤ 255) (hq1 : k = 0 ∨ ((2 ^ k : Nat) : Int) ≤ x) :
    wrap64 ((k : Int) + wrap64 T) = ((Lib.bitLen x.toNat : Nat) : Int) := by
  have e2 := Lib.len8_of y hy0 hy1
  have e3 := Lib.bitLen_le8' y hy0 hy1
  rw [len_nums k x y hk hy hx0 hx hq1, hT, e2]
  clear e2 hT hy hq1
  generalize Lib.bitLen y.toNat = b at *
  unfold wrap64
  omega

theorem len_out {y : Int} (h : ¬ (0 ≤ y ∧ y < (Lib.len8tab.size : Int))) : y < 0 ∨ 255 < y := by
  rw [Lib.len8tab_size] at h
  omega

set_option maxHeartbeats 1000000 in
set_option maxRecDepth 100000 in
theorem len64_any (x : Int) (w : World) (h0 : 0 ≤ x) (h : x < 2199023255552) : Calls Try.prog 29 #[.int .u64 x] w fun e w' => e = .returned (.int .i64 ((Lib.bitLen x.toNat : Nat) : Int)) ∧ w' = w := by
  go_enter Try.func29, Try.ntmps29
  go_wp2
  all_goals first
    | (go_ret; refine ⟨congrArg Ending.returned (congrArg (Value.int IntKind.i64) ?_), rfl⟩)
    | (rename_i hb; replace hb := len_out hb; exfalso; omega)
  · refine len_add 40 x (x / 4294967296 / 256) _ (len8_at _ _) (by decide) ?_ h0 h ?_ ?_ (.inr ?_)
    all_goals (rename_i hb; clear hb; omega)
  · refine len_add 32 x (x / 4294967296) _ (len8_at _ _) (by decide) ?_ h0 h ?_ ?_ (.inr ?_)
    all_goals (rename_i hb; clear hb; omega)
  · refine len_add 24 x (x / 65536 / 256) _ (len8_at _ _) (by decide) ?_ h0 h ?_ ?_ (.inr ?_)
    all_goals (rename_i hb; clear hb; omega)
  · refine len_add 16 x (x / 65536) _ (len8_at _ _) (by decide) ?_ h0 h ?_ ?_ (.inr ?_)
    all_goals (rename_i hb; clear hb; omega)
  · refine len_add 8 x (x / 256) _ (len8_at _ _) (by decide) ?_ h0 h ?_ ?_ (.inr ?_)
    all_goals (rename_i hb; clear hb; omega)
  · rw [show ∀ T, wrap64 (wrap64 T) = wrap64 (((0 : Nat) : Int) + wrap64 T) from fun T => by rw [Int.natCast_zero, Int.zero_add]]
    refine len_add 0 x x _ (len8_at _ _) (by decide) ?_ h0 h ?_ ?_ (.inl rfl)
    all_goals (rename_i hb; clear hb; omega)

set_option maxHeartbeats 1000000 in
theorem len_any (x : Nat) (w : World) (h : x < 2199023255552) : Calls Try.prog 25 #[.int .u64 (x : Int)] w fun e w' => e = .returned (.int .i64 ((Lib.bitLen x : Nat) : Int)) ∧ w' = w := by
  have H := Lib.hid (len64_any (x : Int) w (by omega) (by omega))
  rw [Int.toNat_natCast] at H
  clear h
  go_enter Try.func25, Try.ntmps25
  go_wp2_with (go_at_call 29; refine H.out.mono ?_; rintro e w1 ⟨rfl, rfl⟩)
  go_ret
  exact ⟨rfl, rfl⟩

end Go.Proofs.Ytdifaaimjiflgaa
