/- Parts put together; parts from whichever number on. No program. -/
import Derived.Test.YtpbfmbmdagpmpaaCostMath
namespace Go.Proofs.Ytpbfmbmdagpmpaa

theorem cbits_append {A B : List Int} (ha : nrs A = true) (hb : nrs B = true) (k : Int) : cbits (A ++ B) k = cbits A k + cbits B k := by
  unfold cbits
  rw [nrs_append, ha, hb]
  simp [sN_append]

theorem cwid_append {A B : List Int} (ha : nrs A = true) (hb : nrs B = true) : cwid (A ++ B) = max (cwid A) (cwid B) := by
  unfold cwid
  rw [nrs_append, ha, hb]
  simp [cw_append]
  omega

/-- A part that is longer has no fewer bits. -/
theorem cbN_longer (A B : List Int) (m : Nat) : cbN A m ≤ cbN (A ++ B) m := by
  by_cases hr : cbR (A ++ B) m = true
  · have h := hr
    simp only [cbR, Bool.and_eq_true, decide_eq_true_eq] at h
    have e : cbN (A ++ B) m = 5 + (A ++ B).length * cw (A ++ B) := by unfold cbN; rw [if_pos hr]
    have hw : cw A ≤ cw (A ++ B) := by rw [cw_append]; omega
    have h1 := cbN_raw A m (by omega)
    have h2 : A.length * cw A ≤ (A ++ B).length * cw (A ++ B) := Nat.mul_le_mul (by simp) hw
    omega
  · have e : cbN (A ++ B) m = sN (A ++ B) (bk (A ++ B) m) := by unfold cbN; rw [if_neg hr]
    have h1 := cbN_least A m (bk (A ++ B) m) (bk_le _ _)
    have h2 := sN_append A B (bk (A ++ B) m)
    omega

/-- With a greater k allowed it has no more. -/
theorem cbN_more (A : List Int) {m m' : Nat} (h : m ≤ m') : cbN A m' ≤ cbN A m := by
  by_cases hr : cbR A m = true
  · have h2 := hr
    simp only [cbR, Bool.and_eq_true, decide_eq_true_eq] at h2
    have e : cbN A m = 5 + A.length * cw A := by unfold cbN; rw [if_pos hr]
    have h1 := cbN_raw A m' (by omega)
    omega
  · have e : cbN A m = sN A (bk A m) := by unfold cbN; rw [if_neg hr]
    have h1 := cbN_least A m' (bk A m) (Nat.le_trans (bk_le _ _) h)
    omega

/-- From whichever one on. -/
def turn (L : List Int) (r : Nat) : List Int := L.drop r ++ L.take r

theorem turn_length (L : List Int) (r : Nat) : (turn L r).length = L.length := by simp [turn]; omega

theorem turn_get (L : List Int) (r i : Nat) (hr : r < L.length) (hi : i < L.length) : (turn L r).getD i 0 = L.getD ((i + r) % L.length) 0 := by
  unfold turn
  simp only [List.getD_eq_getElem?_getD]
  congr 1
  by_cases h : i < L.length - r
  · rw [List.getElem?_append_left (by simp; omega), List.getElem?_drop, Nat.mod_eq_of_lt (by omega), Nat.add_comm]
  · rw [List.getElem?_append_right (by simp; omega), List.length_drop, List.getElem?_take, if_pos (by omega)]
    have : (i + r) % L.length = i - (L.length - r) := by
      rw [Nat.mod_eq_sub_mod (by omega), Nat.mod_eq_of_lt (by omega)]; omega
    rw [this]

theorem turn_sN (L : List Int) (r k : Nat) : sN (turn L r) k = sN L k := by
  have h : sN L k = sN (L.take r) k + sN (L.drop r) k := by rw [← sN_append, List.take_append_drop]
  rw [turn, sN_append, h]; omega

theorem turn_cw (L : List Int) (r : Nat) : cw (turn L r) = cw L := by
  have h : cw L = max (cw (L.take r)) (cw (L.drop r)) := by rw [← cw_append, List.take_append_drop]
  rw [turn, cw_append, h]; omega

theorem turn_nrs (L : List Int) (r : Nat) : nrs (turn L r) = nrs L := by
  have h : nrs L = (nrs (L.take r) && nrs (L.drop r)) := by rw [← nrs_append, List.take_append_drop]
  rw [turn, nrs_append, h, Bool.and_comm]

theorem turn_bk (L : List Int) (r m : Nat) : bk (turn L r) m = bk L m := by
  induction m with
  | zero => rfl
  | succ m ih => simp only [bk, ih, turn_sN]

theorem turn_best (L : List Int) (r m : Nat) : bestK (turn L r) m = bestK L m ∧ bestR (turn L r) m = bestR L m ∧ bestN (turn L r) m = bestN L m ∧ bestE (turn L r) = bestE L ∧ cwid (turn L r) = cwid L := by
  simp [bestK, bestR, bestN, bestE, cwid, cbK, cbR, cbN, turn_nrs, turn_cw, turn_sN, turn_bk, turn_length]

end Go.Proofs.Ytpbfmbmdagpmpaa
