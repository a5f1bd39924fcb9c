/- Predictors with factors: what is foretold, what is left, what is restored, all in numbers. No program. -/
import Derived.Test.YtkpmofomlplihaaFixMath
import Derived.Test.YtkpmofomlplihaaPcmMath
namespace Go.Proofs.Ytkpmofomlplihaa

theorem mulb {a m f y : Int} (h1 : -a ≤ f) (h2 : f ≤ a) (h3 : -m ≤ y) (h4 : y ≤ m) : -(a * m) ≤ f * y ∧ f * y ≤ a * m := by
  have ha : f.natAbs ≤ a.natAbs := by omega
  have hm : y.natAbs ≤ m.natAbs := by omega
  have h := Nat.mul_le_mul ha hm
  rw [← Int.natAbs_mul, ← Int.natAbs_mul] at h
  have h0 : 0 ≤ a * m := Int.mul_nonneg (by omega) (by omega)
  omega

/-- A sum of at most 32 products. -/
theorem ts_big {F x : List Int} (hF : Bd 16384 F) (hx : Bd 1099511627776 x) (i : Nat) : ∀ j, j ≤ 32 → -576460752303423488 ≤ ts F x i j ∧ ts F x i j ≤ 576460752303423488 := by
  have key : ∀ j : Nat, -((j : Int) * 18014398509481984) ≤ ts F x i j ∧ ts F x i j ≤ (j : Int) * 18014398509481984 := by
    intro j
    induction j with
    | zero => simp [ts]
    | succ j ih =>
      have h1 := hF.any (by omega) j
      have h2 := hx.any (by omega) (i - 1 - j)
      have h3 := mulb h1.1 h1.2 h2.1 h2.2
      rw [ts]
      generalize F.getD j 0 * x.getD (i - 1 - j) 0 = p at *
      omega
  intro j hj
  have := key j
  omega

/-- What the number at a place is foretold as. -/
def td (F : List Int) (s : Nat) (x : List Int) (i : Nat) : Int := ts F x i F.length / 2 ^ s

theorem div_big (a : Int) (s : Nat) (m : Int) (h : -m ≤ a ∧ a ≤ m) : -m ≤ a / 2 ^ s ∧ a / 2 ^ s ≤ m := by
  have hp : (0 : Int) < 2 ^ s := Int.pow_pos (by decide)
  have h1 : (1 : Int) ≤ 2 ^ s := hp
  generalize (2 : Int) ^ s = p at *
  refine ⟨?_, ?_⟩
  · apply Int.le_ediv_of_mul_le hp
    have : -m * p ≤ -m * 1 := by
      have := Int.mul_le_mul_of_nonneg_left h1 (show 0 ≤ m by omega)
      rw [Int.neg_mul, Int.neg_mul]
      omega
    omega
  · have : a / p ≤ m / p := Int.ediv_le_ediv hp h.2
    have h2 : m / p ≤ m := Int.ediv_le_self _ (by omega)
    omega

theorem td_big {F x : List Int} (hF : Bd 16384 F) (hx : Bd 1099511627776 x) (hl : F.length ≤ 32) (s i : Nat) : -576460752303423488 ≤ td F s x i ∧ td F s x i ≤ 576460752303423488 :=
  div_big _ _ _ (ts_big hF hx i _ hl)

theorem ts_same (F x y : List Int) (n m : Nat) : ∀ j, j ≤ n → (∀ k, k < j → x.getD (n - 1 - k) 0 = y.getD (m - 1 - k) 0) → ts F x n j = ts F y m j := by
  intro j
  induction j with
  | zero => intro _ _; rfl
  | succ j ih =>
    intro hj h
    rw [ts, ts, ih (by omega) (fun k hk => h k (by omega)), h j (by omega)]

/-- What those that stand just ahead foretell is what all foretell. -/
theorem td_win (F x : List Int) (s i : Nat) : td F s ((x.drop i).take F.length) F.length = td F s x (F.length + i) := by
  unfold td
  congr 1
  apply ts_same
  · exact Nat.le_refl _
  · intro k hk
    simp only [List.getD_eq_getElem?_getD]
    rw [List.getElem?_take_of_lt (by omega), List.getElem?_drop]
    congr 2
    omega

theorem td_congr (F x y : List Int) (s n : Nat) (hn : F.length ≤ n) (h : ∀ p, p < n → x.getD p 0 = y.getD p 0) : td F s x n = td F s y n := by
  unfold td
  congr 1
  exact ts_same F x y n n _ hn (fun k hk => h _ (by omega))

/-- What is left of numbers. -/
def lft (F : List Int) (s : Nat) (x : List Int) : List Int := (List.range (x.length - F.length)).map (fun i => x.getD (F.length + i) 0 - td F s x (F.length + i))

theorem lft_length (F : List Int) (s : Nat) (x : List Int) : (lft F s x).length = x.length - F.length := by simp [lft]

theorem lft_get (F : List Int) (s : Nat) (x : List Int) (i : Nat) (h : i < x.length - F.length) : (lft F s x).getD i 0 = x.getD (F.length + i) 0 - td F s x (F.length + i) := by
  simp [lft, List.getD, h]

theorem lft_take (F : List Int) (s : Nat) (x : List Int) (k : Nat) : lft F s (x.take k) = (lft F s x).take (k - F.length) := by
  apply getD_ext
  · simp only [lft_length, List.length_take]; omega
  · intro i hi
    simp only [lft_length, List.length_take] at hi
    have e : ∀ (l : List Int) (m j : Nat), j < m → (l.take m).getD j 0 = l.getD j 0 := fun l m j h => by simp [List.getD, h]
    rw [lft_get _ _ _ _ (by simp only [List.length_take]; omega), e _ _ _ (by omega), e _ _ _ (by omega), lft_get _ _ _ _ (by omega),
      td_congr F (x.take k) x s _ (by omega) (fun p hp => e _ _ _ (by omega))]

/-- Too wide to be left. -/
def wide (n : Int) : Bool := decide (n ≤ -2147483648) || decide (2147483648 ≤ n)

/-- What is wrong with a predictor. -/
def lpcB (s p : Int) (F : List Int) : Bool := decide (F.length < 1) || decide (32 < F.length) || decide (p < 1) || decide (15 < p) || decide (s < 0) || decide (15 < s) || F.any (fun f => !inD f p)

def lpcE (s p : Int) (F : List Int) : Int := if lpcB s p F = true then 1 else 0

theorem lpc_head {s p : Int} {F : List Int} (h : F.length < 1 ∨ 32 < F.length ∨ p < 1 ∨ 15 < p ∨ s < 0 ∨ 15 < s) : lpcB s p F = true := by
  unfold lpcB
  simp only [Bool.or_eq_true, decide_eq_true_eq]
  omega

theorem lpc_tail {s p : Int} {F : List Int} (h : ¬ (F.length < 1 ∨ 32 < F.length ∨ p < 1 ∨ 15 < p ∨ s < 0 ∨ 15 < s)) : lpcB s p F = F.any (fun f => !inD f p) := by
  unfold lpcB
  rw [decide_eq_false (by omega), decide_eq_false (by omega), decide_eq_false (by omega), decide_eq_false (by omega), decide_eq_false (by omega), decide_eq_false (by omega)]
  rfl

theorem ind_bd {n p : Int} (h : inD n p = true) (h2 : p ≤ 15) : -16384 ≤ n ∧ n ≤ 16384 := by
  unfold inD at h
  simp only [Bool.and_eq_true, decide_eq_true_eq] at h
  have h3 : (2 : Nat) ^ (p.toNat - 1) ≤ 2 ^ 14 := Nat.pow_le_pow_right (by decide) (by omega)
  have e : (2 : Int) ^ (p.toNat - 1) = ((2 ^ (p.toNat - 1) : Nat) : Int) := by simp
  rw [e] at h
  generalize (2 : Nat) ^ (p.toNat - 1) = q at *
  omega

/-- A predictor that is right. -/
structure LpcOk (s p : Int) (F : List Int) : Prop where
  lo : 1 ≤ F.length
  hi : F.length ≤ 32
  s0 : 0 ≤ s
  s15 : s ≤ 15
  bd : Bd 16384 F

theorem lpc_ok {s p : Int} {F : List Int} (h : lpcB s p F = false) : LpcOk s p F := by
  have h0 : ¬ (F.length < 1 ∨ 32 < F.length ∨ p < 1 ∨ 15 < p ∨ s < 0 ∨ 15 < s) := fun hh => by rw [lpc_head hh] at h; cases h
  rw [lpc_tail h0] at h
  refine ⟨by omega, by omega, by omega, by omega, bd_of_mem fun n hn => ?_⟩
  have h1 := List.any_eq_false.1 h n hn
  exact ind_bd (by simpa using h1) (by omega)

/-- What is wrong, and what is left. -/
def lresE (s p : Int) (F x : List Int) : Int := if lpcB s p F = true then 1 else if x.length < F.length then 2 else if (lft F s.toNat x).any wide = true then 14 else 0
def lresL (s p : Int) (F x : List Int) : List Int := if lresE s p F x = 0 then lft F s.toNat x else []

/-- Number by number, each of B and what is foretold by those ahead of it. -/
def lrst (F : List Int) (s : Nat) (A B : List Int) : List Int := B.foldl (fun out r => out ++ [r + td F s out out.length]) A

theorem lrst_nil (F : List Int) (s : Nat) (A : List Int) : lrst F s A [] = A := rfl
theorem lrst_snoc (F : List Int) (s : Nat) (A B : List Int) (b : Int) : lrst F s A (B ++ [b]) = lrst F s A B ++ [b + td F s (lrst F s A B) (lrst F s A B).length] := by simp [lrst, List.foldl_append]
theorem lrst_cons (F : List Int) (s : Nat) (A B : List Int) (b : Int) : lrst F s A (b :: B) = lrst F s (A ++ [b + td F s A A.length]) B := rfl

theorem lrst_length (F : List Int) (s : Nat) (A B : List Int) : (lrst F s A B).length = A.length + B.length := by
  induction B generalizing A with
  | nil => rfl
  | cons b B ih => rw [lrst_cons, ih]; simp; omega

theorem lrst_step (F : List Int) (s : Nat) (A B : List Int) (i : Nat) (hi : i < B.length) : lrst F s A (B.take (i + 1)) = lrst F s A (B.take i) ++ [B.getD i 0 + td F s (lrst F s A (B.take i)) (A.length + i)] := by
  rw [List.take_succ_eq_append_getElem hi, lrst_snoc, lrst_length, List.length_take, Nat.min_eq_left (by omega)]
  simp [List.getD, hi]

/-- What is left of numbers restores them. -/
theorem lrst_back (F : List Int) (s : Nat) (x : List Int) (h : F.length ≤ x.length) : ∀ i, i ≤ x.length - F.length → lrst F s (x.take F.length) ((lft F s x).take i) = x.take (F.length + i) := by
  intro i
  induction i with
  | zero => intro _; simp [lrst_nil]
  | succ i ih =>
    intro hi
    have hl := lft_length F s x
    rw [lrst_step _ _ _ _ _ (by omega), ih (by omega), lft_get _ _ _ _ (by omega), List.length_take, Nat.min_eq_left h,
      td_congr F (x.take (F.length + i)) x s _ (by omega) (fun p hp => by simp [List.getD, hp]), show F.length + (i + 1) = F.length + i + 1 by omega, List.take_succ_eq_append_getElem (show F.length + i < x.length by omega)]
    congr 2
    simp [List.getD, show F.length + i < x.length by omega]

theorem lrst_all (F : List Int) (s : Nat) (x : List Int) (h : F.length ≤ x.length) : lrst F s (x.take F.length) (lft F s x) = x := by
  have hl := lft_length F s x
  have h1 := lrst_back F s x h (x.length - F.length) (Nat.le_refl _)
  rw [List.take_of_length_le (l := lft F s x) (by omega), List.take_of_length_le (l := x) (i := F.length + (x.length - F.length)) (by omega)] at h1
  exact h1

theorem lrst_take (F : List Int) (s : Nat) (A B : List Int) (i : Nat) : (lrst F s A B).take (A.length + i) = lrst F s A (B.take i) := by
  induction B generalizing A i with
  | nil =>
    rw [List.take_nil, lrst_nil, List.take_of_length_le (by omega)]
  | cons b B ih =>
    cases i with
    | zero =>
      have : ∀ (C D : List Int), (lrst F s C D).take C.length = C := by
        intro C D
        induction D generalizing C with
        | nil => simp [lrst_nil]
        | cons d D ihd =>
          rw [lrst_cons]
          have h := ihd (C ++ [d + td F s C C.length])
          have h2 := congrArg (List.take C.length) h
          rw [List.take_take, List.length_append, Nat.min_eq_left (by simp)] at h2
          rw [h2]
          simp
      simpa [lrst_nil] using this A (b :: B)
    | succ i =>
      have h := ih (A ++ [b + td F s A A.length]) i
      rw [List.length_append] at h
      rw [lrst_cons, List.take_succ_cons, lrst_cons, ← h]
      congr 1
      simp
      omega

/-- What is being restored: so many are. -/
def mid (F : List Int) (s : Nat) (A B : List Int) (i : Nat) : List Int := lrst F s A (B.take i) ++ B.drop i

theorem mid_length (F : List Int) (s : Nat) (A B : List Int) (i : Nat) (h : i ≤ B.length) : (mid F s A B i).length = A.length + B.length := by
  simp only [mid, List.length_append, lrst_length, List.length_take, List.length_drop]
  omega

theorem mid_zero (F : List Int) (s : Nat) (A B : List Int) : mid F s A B 0 = A ++ B := by simp [mid, lrst_nil]
theorem mid_last (F : List Int) (s : Nat) (A B : List Int) : mid F s A B B.length = lrst F s A B := by simp [mid]

theorem mid_at (F : List Int) (s : Nat) (A B : List Int) (i : Nat) (h : i < B.length) : (mid F s A B i).getD (A.length + i) 0 = B.getD i 0 := by
  have hl : (lrst F s A (B.take i)).length = A.length + i := by rw [lrst_length, List.length_take]; omega
  simp only [mid, List.getD_eq_getElem?_getD]
  rw [List.getElem?_append_right (by omega), hl, Nat.sub_self, List.getElem?_drop, Nat.add_zero]

theorem mid_set (F : List Int) (s : Nat) (A B : List Int) (i : Nat) (h : i < B.length) : (mid F s A B i).set (A.length + i) (B.getD i 0 + td F s (lrst F s A (B.take i)) (A.length + i)) = mid F s A B (i + 1) := by
  have hl : (lrst F s A (B.take i)).length = A.length + i := by rw [lrst_length, List.length_take]; omega
  simp only [mid]
  rw [List.set_append_right _ _ (by omega), hl, Nat.sub_self, lrst_step _ _ _ _ _ h, List.append_assoc]
  congr 1
  rw [List.drop_eq_getElem_cons h, List.set_cons_zero]
  rfl

theorem mid_take (F : List Int) (s : Nat) (A B : List Int) (i : Nat) (h : i ≤ B.length) : (mid F s A B i).take (A.length + i) = lrst F s A (B.take i) := by
  have hl : (lrst F s A (B.take i)).length = A.length + i := by rw [lrst_length, List.length_take]; omega
  simp only [mid]
  rw [List.take_append_of_le_length (by omega), List.take_of_length_le (by omega)]

/-- What those just ahead foretell of the next one that is restored. -/
theorem mid_win (F : List Int) (s : Nat) (A B : List Int) (i : Nat) (hA : A.length = F.length) (h : i < B.length) : td F s (((mid F s A B i).drop i).take F.length) F.length = td F s (lrst F s A (B.take i)) (A.length + i) := by
  rw [td_win, hA]
  have hl : (lrst F s A (B.take i)).length = A.length + i := by rw [lrst_length, List.length_take]; omega
  apply td_congr
  · omega
  · intro p hp
    simp only [mid, List.getD_eq_getElem?_getD]
    rw [List.getElem?_append_left (by omega)]

end Go.Proofs.Ytkpmofomlplihaa
