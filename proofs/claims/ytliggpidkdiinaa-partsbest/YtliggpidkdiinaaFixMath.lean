/- Differences of numbers, again and again. No program. -/
import Derived.Test.YtliggpidkdiinaaMath
namespace Go.Proofs.Ytliggpidkdiinaa

/-- How much each number is above the one ahead. -/
def dl : List Int → List Int
  | [] => []
  | [_] => []
  | a :: b :: t => (b - a) :: dl (b :: t)

theorem dl_length : ∀ x : List Int, (dl x).length = x.length - 1
  | [] => rfl
  | [_] => rfl
  | a :: b :: t => by
    have := dl_length (b :: t)
    simp only [dl, List.length_cons] at this ⊢
    omega

theorem dl_get : ∀ (x : List Int) (i : Nat), i + 1 < x.length → (dl x).getD i 0 = x.getD (i + 1) 0 - x.getD i 0
  | [], i, h => by simp at h
  | [_], i, h => by simp at h
  | a :: b :: t, 0, _ => by simp [dl]
  | a :: b :: t, i + 1, h => by
    have := dl_get (b :: t) i (by simpa using h)
    simpa [dl] using this

/-- So many times. -/
def dn : Nat → List Int → List Int
  | 0, x => x
  | k + 1, x => dl (dn k x)

theorem dn_length : ∀ (k : Nat) (x : List Int), (dn k x).length = x.length - k
  | 0, _ => rfl
  | k + 1, x => by rw [dn, dl_length, dn_length k x]; omega

theorem dn_get (k : Nat) (x : List Int) (i : Nat) (h : i + k + 1 < x.length) : (dn (k + 1) x).getD i 0 = (dn k x).getD (i + 1) 0 - (dn k x).getD i 0 :=
  dl_get _ i (by rw [dn_length]; omega)

/-- None is further from 0. -/
def Bd (m : Int) (x : List Int) : Prop := ∀ i, i < x.length → -m ≤ x.getD i 0 ∧ x.getD i 0 ≤ m

theorem bd_of_mem {m : Int} {x : List Int} (h : ∀ n ∈ x, -m ≤ n ∧ n ≤ m) : Bd m x := fun i hi => by
  have : x.getD i 0 = x[i] := by simp [List.getD, hi]
  rw [this]
  exact h _ (List.getElem_mem hi)

theorem Bd.mem {m : Int} {x : List Int} (h : Bd m x) : ∀ n ∈ x, -m ≤ n ∧ n ≤ m := fun n hn => by
  obtain ⟨i, hi, rfl⟩ := List.mem_iff_getElem.1 hn
  have := h i hi
  simpa [List.getD, hi] using this

theorem Bd.any {m : Int} {x : List Int} (h : Bd m x) (h0 : 0 ≤ m) (i : Nat) : -m ≤ x.getD i 0 ∧ x.getD i 0 ≤ m := by
  by_cases hi : i < x.length
  · exact h i hi
  · rw [show x.getD i 0 = 0 by simp [List.getD, List.getElem?_eq_none (show x.length ≤ i by omega)]]
    omega

theorem Bd.dl {m : Int} {x : List Int} (h : Bd m x) : Bd (2 * m) (dl x) := fun i hi => by
  rw [dl_length] at hi
  rw [dl_get x i (by omega)]
  have h1 := h i (by omega)
  have h2 := h (i + 1) (by omega)
  omega

theorem Bd.mono {m n : Int} {x : List Int} (h : Bd m x) (hmn : m ≤ n) : Bd n x := fun i hi => by
  have := h i hi
  omega

theorem Bd.dn {m : Int} {x : List Int} (h : Bd m x) (h0 : 0 ≤ m) : ∀ k, k ≤ 5 → Bd (32 * m) (dn k x)
  | 0, _ => h.mono (by omega)
  | 1, _ => h.dl.mono (by omega)
  | 2, _ => h.dl.dl.mono (by omega)
  | 3, _ => h.dl.dl.dl.mono (by omega)
  | 4, _ => h.dl.dl.dl.dl.mono (by omega)
  | 5, _ => h.dl.dl.dl.dl.dl.mono (by omega)
  | n + 6, h => by omega

theorem Bd.take {m : Int} {x : List Int} (h : Bd m x) (k : Nat) : Bd m (x.take k) := bd_of_mem fun n hn => h.mem n (List.mem_of_mem_take hn)

/-- The differences laid over the numbers, so many of them. -/
def ov (zs : List Int) (i : Nat) : List Int := (dl zs).take i ++ zs.drop i

theorem ov_length (zs : List Int) (i : Nat) (h : i + 1 ≤ zs.length) : (ov zs i).length = zs.length := by
  simp only [ov, List.length_append, List.length_take, List.length_drop, dl_length]
  omega

theorem ov_at (zs : List Int) (i j : Nat) (h : i + 1 ≤ zs.length) : (ov zs i).getD (i + j) 0 = zs.getD (i + j) 0 := by
  have hl : ((dl zs).take i).length = i := by simp only [List.length_take, dl_length]; omega
  simp only [ov, List.getD_eq_getElem?_getD]
  rw [List.getElem?_append_right (by omega), hl, List.getElem?_drop, show i + (i + j - i) = i + j by omega]

theorem ov_set (zs : List Int) (i : Nat) (h : i + 1 < zs.length) : (ov zs i).set i (zs.getD (i + 1) 0 - zs.getD i 0) = ov zs (i + 1) := by
  have hl : ((dl zs).take i).length = i := by simp only [List.length_take, dl_length]; omega
  have hd := dl_get zs i h
  have hi : i < (dl zs).length := by rw [dl_length]; omega
  simp only [ov]
  rw [List.set_append_right _ _ (by omega), hl, Nat.sub_self, List.take_succ_eq_append_getElem hi, List.append_assoc, ← hd]
  congr 1
  rw [List.drop_eq_getElem_cons (show i < zs.length by omega)]
  simp only [List.getD, List.getElem?_eq_getElem hi, Option.getD_some, List.set_cons_zero, List.singleton_append]

theorem ov_last (zs : List Int) : (ov zs (zs.length - 1)).take (zs.length - 1) = dl zs := by
  have hl : (dl zs).length = zs.length - 1 := dl_length zs
  simp only [ov]
  rw [List.take_append_of_le_length (by simp; omega), List.take_take, List.take_of_length_le (by omega)]

theorem ov_zero (zs : List Int) : ov zs 0 = zs := by simp [ov]

/-- Numbers that are sums: the j-th one of them stands from p on; those ahead are left out. -/
theorem getD_ext {x y : List Int} (hl : x.length = y.length) (h : ∀ i, i < x.length → x.getD i 0 = y.getD i 0) : x = y := by
  apply List.ext_getElem hl
  intro i h1 h2
  have := h i h1
  simpa [List.getD, h1, h2] using this

/-- What is left of a beginning is the beginning of what is left. -/
theorem dn_take (k n : Nat) (x : List Int) : dn k (x.take n) = (dn k x).take (n - k) := by
  induction k with
  | zero => simp [dn]
  | succ k ih =>
    apply getD_ext
    · simp only [dn_length, List.length_take]; omega
    · intro i hi
      simp only [dn_length, List.length_take] at hi
      rw [dn_get k _ i (by simp only [List.length_take]; omega), ih]
      have e : ∀ (l : List Int) (m j : Nat), j < m → (l.take m).getD j 0 = l.getD j 0 := fun l m j h => by simp [List.getD, h]
      rw [e _ _ _ (by omega), e _ _ _ (by omega), e _ _ _ (by omega), dn_get k x i (by omega)]

/-- The factors of an order. -/
def fac : Nat → List Int
  | 1 => [1]
  | 2 => [2, -1]
  | 3 => [3, -3, 1]
  | 4 => [4, -6, 4, -1]
  | _ => []

/-- The sum of the numbers ahead of a place times their factors, of so many of them. -/
def ts (F x : List Int) (i : Nat) : Nat → Int
  | 0 => 0
  | j + 1 => ts F x i j + F.getD j 0 * x.getD (i - 1 - j) 0

theorem fac_length (k : Nat) (h : k ≤ 4) : (fac k).length = k := by
  match k, h with
  | 0, _ => rfl
  | 1, _ => rfl
  | 2, _ => rfl
  | 3, _ => rfl
  | 4, _ => rfl
  | n + 5, h => omega

theorem fac_bd (k : Nat) : Bd 6 (fac k) := by
  apply bd_of_mem
  intro n hn
  unfold fac at hn
  split at hn <;> simp at hn <;> omega

theorem mul_bd (f y m : Int) (h1 : -6 ≤ f) (h2 : f ≤ 6) (h3 : -m ≤ y) (h4 : y ≤ m) : -(6 * m) ≤ f * y ∧ f * y ≤ 6 * m := by
  have hm : 0 ≤ m := by omega
  rcases (by omega : f = -6 ∨ f = -5 ∨ f = -4 ∨ f = -3 ∨ f = -2 ∨ f = -1 ∨ f = 0 ∨ f = 1 ∨ f = 2 ∨ f = 3 ∨ f = 4 ∨ f = 5 ∨ f = 6) with h | h | h | h | h | h | h | h | h | h | h | h | h <;> subst h <;> omega

theorem ts_bd {F x : List Int} {m : Int} (hF : Bd 6 F) (hx : Bd m x) (h0 : 0 ≤ m) (i : Nat) : ∀ j, j ≤ 4 → -(24 * m) ≤ ts F x i j ∧ ts F x i j ≤ 24 * m := by
  have key : ∀ j : Nat, -((j : Int) * (6 * m)) ≤ ts F x i j ∧ ts F x i j ≤ (j : Int) * (6 * m) := by
    intro j
    induction j with
    | zero => simp [ts]
    | succ j ih =>
      have h1 := hF.any (by omega) j
      have h2 := hx.any h0 (i - 1 - j)
      have h3 := mul_bd _ _ m h1.1 h1.2 h2.1 h2.2
      rw [ts, show ((j + 1 : Nat) : Int) * (6 * m) = (j : Int) * (6 * m) + 6 * m by rw [show ((j + 1 : Nat) : Int) = (j : Int) + 1 by simp, Int.add_mul, Int.one_mul]]
      generalize (j : Int) * (6 * m) = q at *
      generalize F.getD j 0 * x.getD (i - 1 - j) 0 = p at *
      omega
  intro j hj
  have h1 := key j
  have h2 : (j : Int) * (6 * m) ≤ 4 * (6 * m) := Int.mul_le_mul_of_nonneg_right (by omega) (by omega)
  omega

/-- What a number is above what it is foretold is what the differences leave. -/
theorem told_left (k : Nat) (hk : k ≤ 4) (x : List Int) (i : Nat) (h1 : k ≤ i) (h2 : i < x.length) : x.getD i 0 - ts (fac k) x i k = (dn k x).getD (i - k) 0 := by
  match k, hk, h1 with
  | 0, _, _ => simp [ts, dn]
  | 1, _, h1 =>
    obtain ⟨j, rfl⟩ : ∃ j, i = j + 1 := ⟨i - 1, by omega⟩
    rw [show j + 1 - 1 = j by omega, dn_get 0 x j (by omega)]
    simp [ts, fac, dn]
  | 2, _, h1 =>
    obtain ⟨j, rfl⟩ : ∃ j, i = j + 2 := ⟨i - 2, by omega⟩
    rw [show j + 2 - 2 = j by omega, dn_get 1 x j (by omega), dn_get 0 x j (by omega), dn_get 0 x (j + 1) (by omega)]
    simp [ts, fac, dn]
    rw [show j + 1 + 1 = j + 2 by omega]
    omega
  | 3, _, h1 =>
    obtain ⟨j, rfl⟩ : ∃ j, i = j + 3 := ⟨i - 3, by omega⟩
    rw [show j + 3 - 3 = j by omega, dn_get 2 x j (by omega), dn_get 1 x j (by omega), dn_get 1 x (j + 1) (by omega), dn_get 0 x j (by omega), dn_get 0 x (j + 1) (by omega), dn_get 0 x (j + 1 + 1) (by omega)]
    simp [ts, fac, dn]
    rw [show j + 1 + 1 + 1 = j + 3 by omega, show j + 1 + 1 = j + 2 by omega]
    omega
  | 4, _, h1 =>
    obtain ⟨j, rfl⟩ : ∃ j, i = j + 4 := ⟨i - 4, by omega⟩
    rw [show j + 4 - 4 = j by omega, dn_get 3 x j (by omega), dn_get 2 x j (by omega), dn_get 2 x (j + 1) (by omega), dn_get 1 x j (by omega), dn_get 1 x (j + 1) (by omega), dn_get 1 x (j + 1 + 1) (by omega), dn_get 0 x j (by omega), dn_get 0 x (j + 1) (by omega), dn_get 0 x (j + 1 + 1) (by omega), dn_get 0 x (j + 1 + 1 + 1) (by omega)]
    simp [ts, fac, dn]
    rw [show j + 1 + 1 + 1 + 1 = j + 4 by omega, show j + 1 + 1 + 1 = j + 3 by omega, show j + 1 + 1 = j + 2 by omega]
    omega
  | n + 5, h, _ => omega

end Go.Proofs.Ytliggpidkdiinaa
