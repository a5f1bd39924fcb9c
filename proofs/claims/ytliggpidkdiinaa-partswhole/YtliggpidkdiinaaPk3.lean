/- Slices of integers: the reference's Ints; the library's Clone, Grow and Concat. Differences of numbers, again and again. No program. Package fixed: differences. Slices of integers, more: literals, Ints of equal ones, b[k:], b[:k]; the reference's Near. A slice of integers that is filled place by place; cells that are kept; b[k:]. The library's slices.Repeat of one number, so many times as a power of 2. Package parts: Cuts. Package parts: cut, ks, finest, pairs. -/
import Derived.Test.YtliggpidkdiinaaPk2
import Derived.Lib.AppendZerosOnto
import Derived.Deep.RegionLaw
import Derived.Deep.OwnRows
import Derived.Test.YtliggpidkdiinaaPk1
import Derived.Laws.OwnMore
import Derived.Laws.CopyOwn

namespace Go.Proofs.Ytliggpidkdiinaa
open Go.RowKit Bx

def ivs (zs : List Int) : List Value := zs.map (Value.int .i64)

theorem ivs_length (zs : List Int) : (ivs zs).length = zs.length := by simp [ivs]

theorem owns_weak {w : World} {base base' : Nat} {e : TypeId} {v : Value} {n : Nat} {xs : List Value} (h : w.ownsRow base e 1 v n xs) (hb : base' ≤ base) : w.ownsRow base' e 1 v n xs := by
  refine ⟨h.1, ?_⟩
  rcases h.2 with h2 | ⟨g, cap, cur, e1, e2, e3⟩
  · exact .inl h2
  · exact .inr ⟨g, cap, cur, e1, Nat.le_trans hb e2, e3⟩

theorem w64_in (n : Int) (h : -9223372036854775808 ≤ n ∧ n ≤ 9223372036854775807) : wrap64 n = n := by unfold wrap64; omega

theorem info_int : (Try.prog.info? 3).map (fun i => (i.zero, i.size, i.bytes)) = some (some (.int .i64 0), 1, 8) := by kernel_rfl

theorem info_ints : (Try.prog.info? 22).map (fun i => (i.zero, i.size, i.bytes)) = some (some (.slice none 0 0), 1, 24) := by kernel_rfl

theorem sl_alloc (w : World) (xs : List Value) (e : TypeId) (n : Nat) (hn : xs.length = n) (hm : n ≤ maxLen) : Sl (w.alloc (.cells xs.toArray e)) (.slice (some ⟨w.heap.size, 0, none⟩) n n) xs := by
  subst hn
  refine ⟨_, xs.length, rfl, Nat.le_refl _, hm, fun h => by simp at h, fun _ => ⟨w.heap.size, 0, rfl, by simp, fun j u hu => ?_⟩⟩
  rw [Nat.zero_add, World.cell?_alloc_mark, List.getElem?_toArray]
  exact hu

theorem w64_i (n : Int) (h : -9223372036854775808 ≤ n ∧ n ≤ 9223372036854775807) : wrap64 n = n := by unfold wrap64; omega

def IntsInv (va vb : Value) (A B : List Int) (w : World) (a : Act) (w' : World) : Prop :=
  a.defers = [] ∧ a.tmps.size = 26 ∧ a.tmps[0]? = some va ∧ a.tmps[1]? = some vb ∧ ∃ i, i ≤ A.length ∧ a.tmps[5]? = some (.int .i64 ((i : Nat) : Int)) ∧ A.take i = B.take i ∧ ∃ n, w' = w.drewN n

theorem take_stepI {A B : List Int} {i : Nat} (h : A.take i = B.take i) (h1 : i < A.length) (h2 : i < B.length) (hx : A.getD i 0 = B.getD i 0) : A.take (i + 1) = B.take (i + 1) := by
  rw [List.take_succ_eq_append_getElem h1, List.take_succ_eq_append_getElem h2, h]
  simp only [List.getD_eq_getElem?_getD, List.getElem?_eq_getElem h1, List.getElem?_eq_getElem h2, Option.getD_some] at hx
  rw [hx]

theorem ivs_one (zs : List Int) : ∀ u ∈ ivs zs, u.oneCell' = true := by
  intro u hu
  obtain ⟨_, _, rfl⟩ := List.mem_map.1 hu
  rfl

theorem src_ivs {w : World} {ao : Option Addr} {n cap : Nat} {zs : List Int} (h : Sl w (.slice ao n cap) (ivs zs)) : SrcIs w 1 ao n cap (ivs zs) ∧ n = zs.length := by
  obtain ⟨ao', cap', e, hs⟩ := src_of_sl h (ivs_one zs)
  simp only [Value.slice.injEq, ivs_length] at e
  obtain ⟨rfl, rfl, rfl⟩ := e
  rw [ivs_length] at hs
  exact ⟨hs, rfl⟩

theorem eq_nil (w : World) (a : Option Addr) (n c : Nat) : (binOp .eql 22 (.slice a n c) (.slice none 0 0)).run Try.prog w = .ok (.bool a.isNone) w := by
  simp only [binOp]
  simp [Op.equal, Op.maxDepth, Lib.run_equalIn_slice_nil w 9999 22 3 a n c 0 0 Try.underlying22]

theorem run_grow_zeros (n : Nat) (h0 : 0 < n) (hn : n < 1099511627776) (w : World) (ty : TypeId) : (Builtin.append_ #[22, 3] ty #[.slice none 0 0, .int .i64 (n : Int)]).run Try.prog w =
    .ok (.slice (some ⟨w.heap.size, 0, none⟩) n (grownCap w n 0 3)) (w.drew.alloc (.cells (Builtin.zeroCells #[.int .i64 0] n ++ Builtin.zeroCells #[.int .i64 0] (grownCap w n 0 3 - n)) 3)) := by
  obtain ⟨i0, hi0, hz0, hzs, hzb⟩ := info_parts info_int
  have hold : (Builtin.firstCells i0.size 0 (.slice none 0 0)).run Try.prog w.drew = .ok ([] : List Value).toArray w.drew := run_firstCells_none w.drew i0.size 0 0 0
  have h := Lib.run_append_grow_zeros (P := Try.prog) w 22 3 ty 3 i0 (.int .i64 0) .i64 .i64 Try.underlying22 Try.underlying3 hi0 hz0 none 0 0 [] hold n h0 (by omega) (by omega) (by omega) (by rw [hzb]; omega) (growslice_fits (by omega) (by rw [hzb]; omega))
  simp only [Nat.zero_add] at h
  rw [h]
  have e : ([] : List Value).toArray ++ Builtin.zeroCells (Value.int IntKind.i64 0).cells n = Builtin.zeroCells #[.int .i64 0] n := by simp [Value.cells]
  rw [e]
  rfl

theorem wpList_zeros {ops : Array Oper} {rest : List Oper} {o : Oper} {a : Act} {w : World} {Q : Exit → Act → World → Prop} (hgd : o.guard = none) (s x : Operand)
    (ho : o.op = .call { callee := .builtin .append, args := #[s, x], argTypes := #[22, 3] }) (n : Nat) (h0 : 0 < n) (hn : n < 1099511627776) (hs : a.eval s = .slice none 0 0) (hx : a.eval x = .int .i64 (n : Int))
    (h : wpList Try.prog ops Q rest (a.put o.dst (.slice (some ⟨w.heap.size, 0, none⟩) n (grownCap w n 0 3))) (w.drew.alloc (.cells (Builtin.zeroCells #[.int .i64 0] n ++ Builtin.zeroCells #[.int .i64 0] (grownCap w n 0 3 - n)) 3))) : wpList Try.prog ops Q (o :: rest) a w := by
  refine wpList_plain hgd fun K hK => ?_
  have hr := run_grow_zeros n h0 hn w o.type
  unfold Oper.wp execOp
  simp only [ho, resolve, invoke, builtin, Sem.run_bind, Sem.run_pure, Result.andThen_ok, List.map_toArray, List.map_cons, List.map_nil, hs, hx, hr]
  exact hK _ _ h

def CatA (v : Value) (L : List (List Int)) (w : World) (a : Act) (w' : World) : Prop :=
  a.defers = [] ∧ a.tmps.size = 36 ∧ a.tmps[0]? = some v ∧ a.tmps[9]? = some v ∧ a.tmps[10]? = some (.int .i64 (L.length : Int)) ∧ ∃ i : Nat, i ≤ L.length ∧ a.tmps[11]? = some (.int .i64 (i : Int)) ∧ a.tmps[3]? = some (.int .i64 ((L.take i).flatten.length : Int)) ∧ w' = w

def CatB (v : Value) (L : List (List Int)) (w : World) (a : Act) (w' : World) : Prop :=
  a.defers = [] ∧ a.tmps.size = 36 ∧ a.tmps[25]? = some v ∧ a.tmps[26]? = some (.int .i64 (L.length : Int)) ∧ ∃ i : Nat, i ≤ L.length ∧ a.tmps[27]? = some (.int .i64 (i : Int)) ∧ Kept Nix w w' ∧ ∃ u, a.tmps[6]? = some u ∧ w'.ownsRow w.heap.size 3 1 u (L.take i).flatten.length (ivs (L.take i).flatten)

theorem take_flat (L : List (List Int)) (i : Nat) (h : i < L.length) : (L.take (i + 1)).flatten = (L.take i).flatten ++ L.getD i [] := by
  rw [List.take_succ_eq_append_getElem h, List.flatten_append]
  simp [List.getD, h]

theorem take_flat_le (L : List (List Int)) (i : Nat) : (L.take i).flatten.length ≤ L.flatten.length := by
  have h : L.flatten = (L.take i).flatten ++ (L.drop i).flatten := by rw [← List.flatten_append, List.take_append_drop]
  rw [h, List.length_append]
  omega

theorem made_int (n : Nat) : madeCells #[Value.int .i64 0] n = (ivs (List.replicate n 0)).toArray := by
  apply Array.ext
  · simp [size_madeCells, ivs]
  · intro i h1 h2
    simp [madeCells, ivs, Nat.mod_one]

theorem make_int (n : Nat) (h : n ≤ 1099511627776) (w : World) : (Instr.makeSlice 22 (.int .i64 (n : Int)) (.int .i64 (n : Int))).run Try.prog w = .ok (.slice (some ⟨w.heap.size, 0, none⟩) n n) (w.alloc (.cells (ivs (List.replicate n 0)).toArray 3)) := by
  rw [← made_int]
  exact run_make_row' (P := Try.prog) 22 3 (.int .i64 0) 8 Try.underlying22 info_int rfl .i64 .i64 n (by omega) (by omega) w

end Go.Proofs.Ytliggpidkdiinaa

namespace Go.Proofs.Ytliggpidkdiinaa

/-- How much each number is above the one ahead. -/
def dl : List Int → List Int
  | [] => []
  | [_] => []
  | a :: b :: t => (b - a) :: dl (b :: t)

theorem dl_length : ∀ x : List Int, (dl x).length = x.length - 1
  | [] => rfl
  | [_] => rfl
  | a :: b :: t => by
    have := dl_length (b :: t)
    simp only [dl, List.length_cons] at this ⊢
    omega

theorem dl_get : ∀ (x : List Int) (i : Nat), i + 1 < x.length → (dl x).getD i 0 = x.getD (i + 1) 0 - x.getD i 0
  | [], i, h => by simp at h
  | [_], i, h => by simp at h
  | a :: b :: t, 0, _ => by simp [dl]
  | a :: b :: t, i + 1, h => by
    have := dl_get (b :: t) i (by simpa using h)
    simpa [dl] using this

/-- So many times. -/
def dn : Nat → List Int → List Int
  | 0, x => x
  | k + 1, x => dl (dn k x)

theorem dn_length : ∀ (k : Nat) (x : List Int), (dn k x).length = x.length - k
  | 0, _ => rfl
  | k + 1, x => by rw [dn, dl_length, dn_length k x]; omega

theorem dn_get (k : Nat) (x : List Int) (i : Nat) (h : i + k + 1 < x.length) : (dn (k + 1) x).getD i 0 = (dn k x).getD (i + 1) 0 - (dn k x).getD i 0 :=
  dl_get _ i (by rw [dn_length]; omega)

/-- None is further from 0. -/
def Bd (m : Int) (x : List Int) : Prop := ∀ i, i < x.length → -m ≤ x.getD i 0 ∧ x.getD i 0 ≤ m

theorem bd_of_mem {m : Int} {x : List Int} (h : ∀ n ∈ x, -m ≤ n ∧ n ≤ m) : Bd m x := fun i hi => by
  have : x.getD i 0 = x[i] := by simp [List.getD, hi]
  rw [this]
  exact h _ (List.getElem_mem hi)

theorem Bd.mem {m : Int} {x : List Int} (h : Bd m x) : ∀ n ∈ x, -m ≤ n ∧ n ≤ m := fun n hn => by
  obtain ⟨i, hi, rfl⟩ := List.mem_iff_getElem.1 hn
  have := h i hi
  simpa [List.getD, hi] using this

theorem Bd.any {m : Int} {x : List Int} (h : Bd m x) (h0 : 0 ≤ m) (i : Nat) : -m ≤ x.getD i 0 ∧ x.getD i 0 ≤ m := by
  by_cases hi : i < x.length
  · exact h i hi
  · rw [show x.getD i 0 = 0 by simp [List.getD, List.getElem?_eq_none (show x.length ≤ i by omega)]]
    omega

theorem Bd.dl {m : Int} {x : List Int} (h : Bd m x) : Bd (2 * m) (dl x) := fun i hi => by
  rw [dl_length] at hi
  rw [dl_get x i (by omega)]
  have h1 := h i (by omega)
  have h2 := h (i + 1) (by omega)
  omega

theorem Bd.mono {m n : Int} {x : List Int} (h : Bd m x) (hmn : m ≤ n) : Bd n x := fun i hi => by
  have := h i hi
  omega

theorem Bd.dn {m : Int} {x : List Int} (h : Bd m x) (h0 : 0 ≤ m) : ∀ k, k ≤ 5 → Bd (32 * m) (dn k x)
  | 0, _ => h.mono (by omega)
  | 1, _ => h.dl.mono (by omega)
  | 2, _ => h.dl.dl.mono (by omega)
  | 3, _ => h.dl.dl.dl.mono (by omega)
  | 4, _ => h.dl.dl.dl.dl.mono (by omega)
  | 5, _ => h.dl.dl.dl.dl.dl.mono (by omega)
  | n + 6, h => by omega

theorem Bd.take {m : Int} {x : List Int} (h : Bd m x) (k : Nat) : Bd m (x.take k) := bd_of_mem fun n hn => h.mem n (List.mem_of_mem_take hn)

/-- The differences laid over the numbers, so many of them. -/
def ov (zs : List Int) (i : Nat) : List Int := (dl zs).take i ++ zs.drop i

theorem ov_length (zs : List Int) (i : Nat) (h : i + 1 ≤ zs.length) : (ov zs i).length = zs.length := by
  simp only [ov, List.length_append, List.length_take, List.length_drop, dl_length]
  omega

theorem ov_at (zs : List Int) (i j : Nat) (h : i + 1 ≤ zs.length) : (ov zs i).getD (i + j) 0 = zs.getD (i + j) 0 := by
  have hl : ((dl zs).take i).length = i := by simp only [List.length_take, dl_length]; omega
  simp only [ov, List.getD_eq_getElem?_getD]
  rw [List.getElem?_append_right (by omega), hl, List.getElem?_drop, show i + (i + j - i) = i + j by omega]

theorem ov_set (zs : List Int) (i : Nat) (h : i + 1 < zs.length) : (ov zs i).set i (zs.getD (i + 1) 0 - zs.getD i 0) = ov zs (i + 1) := by
  have hl : ((dl zs).take i).length = i := by simp only [List.length_take, dl_length]; omega
  have hd := dl_get zs i h
  have hi : i < (dl zs).length := by rw [dl_length]; omega
  simp only [ov]
  rw [List.set_append_right _ _ (by omega), hl, Nat.sub_self, List.take_succ_eq_append_getElem hi, List.append_assoc, ← hd]
  congr 1
  rw [List.drop_eq_getElem_cons (show i < zs.length by omega)]
  simp only [List.getD, List.getElem?_eq_getElem hi, Option.getD_some, List.set_cons_zero, List.singleton_append]

theorem ov_last (zs : List Int) : (ov zs (zs.length - 1)).take (zs.length - 1) = dl zs := by
  have hl : (dl zs).length = zs.length - 1 := dl_length zs
  simp only [ov]
  rw [List.take_append_of_le_length (by simp; omega), List.take_take, List.take_of_length_le (by omega)]

theorem ov_zero (zs : List Int) : ov zs 0 = zs := by simp [ov]

/-- Numbers that are sums: the j-th one of them stands from p on; those ahead are left out. -/
theorem getD_ext {x y : List Int} (hl : x.length = y.length) (h : ∀ i, i < x.length → x.getD i 0 = y.getD i 0) : x = y := by
  apply List.ext_getElem hl
  intro i h1 h2
  have := h i h1
  simpa [List.getD, h1, h2] using this

/-- What is left of a beginning is the beginning of what is left. -/
theorem dn_take (k n : Nat) (x : List Int) : dn k (x.take n) = (dn k x).take (n - k) := by
  induction k with
  | zero => simp [dn]
  | succ k ih =>
    apply getD_ext
    · simp only [dn_length, List.length_take]; omega
    · intro i hi
      simp only [dn_length, List.length_take] at hi
      rw [dn_get k _ i (by simp only [List.length_take]; omega), ih]
      have e : ∀ (l : List Int) (m j : Nat), j < m → (l.take m).getD j 0 = l.getD j 0 := fun l m j h => by simp [List.getD, h]
      rw [e _ _ _ (by omega), e _ _ _ (by omega), e _ _ _ (by omega), dn_get k x i (by omega)]

/-- The factors of an order. -/
def fac : Nat → List Int
  | 1 => [1]
  | 2 => [2, -1]
  | 3 => [3, -3, 1]
  | 4 => [4, -6, 4, -1]
  | _ => []

/-- The sum of the numbers ahead of a place times their factors, of so many of them. -/
def ts (F x : List Int) (i : Nat) : Nat → Int
  | 0 => 0
  | j + 1 => ts F x i j + F.getD j 0 * x.getD (i - 1 - j) 0

theorem fac_length (k : Nat) (h : k ≤ 4) : (fac k).length = k := by
  match k, h with
  | 0, _ => rfl
  | 1, _ => rfl
  | 2, _ => rfl
  | 3, _ => rfl
  | 4, _ => rfl
  | n + 5, h => omega

theorem fac_bd (k : Nat) : Bd 6 (fac k) := by
  apply bd_of_mem
  intro n hn
  unfold fac at hn
  split at hn <;> simp at hn <;> omega

theorem mul_bd (f y m : Int) (h1 : -6 ≤ f) (h2 : f ≤ 6) (h3 : -m ≤ y) (h4 : y ≤ m) : -(6 * m) ≤ f * y ∧ f * y ≤ 6 * m := by
  have hm : 0 ≤ m := by omega
  rcases (by omega : f = -6 ∨ f = -5 ∨ f = -4 ∨ f = -3 ∨ f = -2 ∨ f = -1 ∨ f = 0 ∨ f = 1 ∨ f = 2 ∨ f = 3 ∨ f = 4 ∨ f = 5 ∨ f = 6) with h | h | h | h | h | h | h | h | h | h | h | h | h <;> subst h <;> omega

theorem ts_bd {F x : List Int} {m : Int} (hF : Bd 6 F) (hx : Bd m x) (h0 : 0 ≤ m) (i : Nat) : ∀ j, j ≤ 4 → -(24 * m) ≤ ts F x i j ∧ ts F x i j ≤ 24 * m := by
  have key : ∀ j : Nat, -((j : Int) * (6 * m)) ≤ ts F x i j ∧ ts F x i j ≤ (j : Int) * (6 * m) := by
    intro j
    induction j with
    | zero => simp [ts]
    | succ j ih =>
      have h1 := hF.any (by omega) j
      have h2 := hx.any h0 (i - 1 - j)
      have h3 := mul_bd _ _ m h1.1 h1.2 h2.1 h2.2
      rw [ts, show ((j + 1 : Nat) : Int) * (6 * m) = (j : Int) * (6 * m) + 6 * m by rw [show ((j + 1 : Nat) : Int) = (j : Int) + 1 by simp, Int.add_mul, Int.one_mul]]
      generalize (j : Int) * (6 * m) = q at *
      generalize F.getD j 0 * x.getD (i - 1 - j) 0 = p at *
      omega
  intro j hj
  have h1 := key j
  have h2 : (j : Int) * (6 * m) ≤ 4 * (6 * m) := Int.mul_le_mul_of_nonneg_right (by omega) (by omega)
  omega

/-- What a number is above what it is foretold is what the differences leave. -/
theorem told_left (k : Nat) (hk : k ≤ 4) (x : List Int) (i : Nat) (h1 : k ≤ i) (h2 : i < x.length) : x.getD i 0 - ts (fac k) x i k = (dn k x).getD (i - k) 0 := by
  match k, hk, h1 with
  | 0, _, _ => simp [ts, dn]
  | 1, _, h1 =>
    obtain ⟨j, rfl⟩ : ∃ j, i = j + 1 := ⟨i - 1, by omega⟩
    rw [show j + 1 - 1 = j by omega, dn_get 0 x j (by omega)]
    simp [ts, fac, dn]
  | 2, _, h1 =>
    obtain ⟨j, rfl⟩ : ∃ j, i = j + 2 := ⟨i - 2, by omega⟩
    rw [show j + 2 - 2 = j by omega, dn_get 1 x j (by omega), dn_get 0 x j (by omega), dn_get 0 x (j + 1) (by omega)]
    simp [ts, fac, dn]
    rw [show j + 1 + 1 = j + 2 by omega]
    omega
  | 3, _, h1 =>
    obtain ⟨j, rfl⟩ : ∃ j, i = j + 3 := ⟨i - 3, by omega⟩
    rw [show j + 3 - 3 = j by omega, dn_get 2 x j (by omega), dn_get 1 x j (by omega), dn_get 1 x (j + 1) (by omega), dn_get 0 x j (by omega), dn_get 0 x (j + 1) (by omega), dn_get 0 x (j + 1 + 1) (by omega)]
    simp [ts, fac, dn]
    rw [show j + 1 + 1 + 1 = j + 3 by omega, show j + 1 + 1 = j + 2 by omega]
    omega
  | 4, _, h1 =>
    obtain ⟨j, rfl⟩ : ∃ j, i = j + 4 := ⟨i - 4, by omega⟩
    rw [show j + 4 - 4 = j by omega, dn_get 3 x j (by omega), dn_get 2 x j (by omega), dn_get 2 x (j + 1) (by omega), dn_get 1 x j (by omega), dn_get 1 x (j + 1) (by omega), dn_get 1 x (j + 1 + 1) (by omega), dn_get 0 x j (by omega), dn_get 0 x (j + 1) (by omega), dn_get 0 x (j + 1 + 1) (by omega), dn_get 0 x (j + 1 + 1 + 1) (by omega)]
    simp [ts, fac, dn]
    rw [show j + 1 + 1 + 1 + 1 = j + 4 by omega, show j + 1 + 1 + 1 = j + 3 by omega, show j + 1 + 1 = j + 2 by omega]
    omega
  | n + 5, h, _ => omega

end Go.Proofs.Ytliggpidkdiinaa

namespace Go.Proofs.Ytliggpidkdiinaa
open Go.RowKit Bx

theorem ivs_get (zs : List Int) (i : Nat) (h : i < zs.length) : (ivs zs)[i]? = some (.int .i64 (zs.getD i 0)) := by simp [ivs, h]
theorem ivs_set (zs : List Int) (i : Nat) (z : Int) : (ivs zs).set i (.int .i64 z) = ivs (zs.set i z) := by simp [ivs, List.map_set]
theorem ivs_take (zs : List Int) (i : Nat) : (ivs zs).take i = ivs (zs.take i) := by simp [ivs, List.map_take]
theorem ivs_drop (zs : List Int) (i : Nat) : (ivs zs).drop i = ivs (zs.drop i) := by simp [ivs, List.map_drop]
theorem ivs_append (a b : List Int) : ivs (a ++ b) = ivs a ++ ivs b := by simp [ivs]

/-- A beginning of what is owned is owned. -/
theorem owns_less {w : World} {base g n cap m : Nat} {e : TypeId} {xs : List Value} (h : w.ownsRow base e 1 (.slice (some ⟨g, 0, none⟩) n cap) n xs) (hm : m ≤ n) : w.ownsRow base e 1 (.slice (some ⟨g, 0, none⟩) m cap) m (xs.take m) := by
  have hl := h.1
  rcases h.2 with ⟨h', _⟩ | ⟨g', cap', cur, h', hb, hg, hnc, hcm, hcs, htake⟩
  · simp at h'
  · simp only [Value.slice.injEq, Option.some.injEq, Addr.mk.injEq, and_true, true_and] at h'
    obtain ⟨rfl, rfl⟩ := h'
    refine ⟨by simp; omega, .inr ⟨g, cap, cur, rfl, hb, hg, by omega, hcm, hcs, ?_⟩⟩
    rw [← htake, List.take_take, Nat.mul_one, Nat.mul_one, Nat.min_eq_left hm]

theorem owns_cap {w : World} {base n cap : Nat} {ao : Option Addr} {e : TypeId} {size : Nat} {xs : List Value} (h : w.ownsRow base e size (.slice ao n cap) n xs) : n ≤ cap ∧ cap ≤ maxLen := by
  obtain ⟨ao', cap', e, hc1, hc2⟩ := owns_shape h
  simp only [Value.slice.injEq] at e
  rw [e.2.2]
  exact ⟨hc1, hc2⟩

theorem nearer {m i i' : Nat} (h : i < m) (e : i + 1 = i') : m - (intOf (.int .i64 (i' : Int))).toNat < m - (intOf (.int .i64 (i : Int))).toNat := by
  simp only [intOf, Int.toNat_natCast]
  omega

def DiffInv (base g n cap m : Nat) (zs : List Int) (w : World) (a : Act) (w' : World) : Prop :=
  a.defers = [] ∧ a.tmps.size = 29 ∧ a.tmps[0]? = some (.slice (some ⟨g, 0, none⟩) n cap) ∧ a.tmps[3]? = some (.int .i64 (m : Int)) ∧ a.tmps[8]? = some (.int .i64 (m : Int)) ∧
  ∃ i : Nat, i ≤ m ∧ a.tmps[9]? = some (.int .i64 (i : Int)) ∧ w'.ownsRow base 3 1 (.slice (some ⟨g, 0, none⟩) n cap) n (ivs (ov zs i)) ∧ Kept (One g) w w'

theorem diff_nums (n cap m i : Nat) (x y : Int) (hn : n = m + 1) (h : n ≤ cap) (hm : cap ≤ maxLen) (hi : i < m) (hx : -4611686018427387903 ≤ x ∧ x ≤ 4611686018427387903) (hy : -4611686018427387903 ≤ y ∧ y ≤ 4611686018427387903) :
    IntKind.i64.wrap ((i : Int) + 1) = ((i + 1 : Nat) : Int) ∧ wrap64 ((i : Int) + 1) = ((i + 1 : Nat) : Int) ∧ IntKind.i64.wrap (y - x) = y - x ∧ wrap64 (y - x) = y - x ∧ decide ((i : Int) < (m : Int)) = true ∧ (i : Int) < (n : Int) ∧ ((i + 1 : Nat) : Int) < (n : Int) ∧ i < n ∧ i + 1 < n := by
  simp only [maxLen] at hm
  have e1 : wrap64 ((i : Int) + 1) = ((i + 1 : Nat) : Int) := by unfold wrap64; omega
  have e2 : wrap64 (y - x) = y - x := by unfold wrap64; omega
  refine ⟨?_, e1, ?_, e2, ?_, ?_, ?_, ?_, ?_⟩
  · rw [IntWalk.i64_in _ (by omega)]; simp
  · exact IntWalk.i64_in _ (by omega)
  · exact decide_eq_true (by omega)
  all_goals omega

end Go.Proofs.Ytliggpidkdiinaa

namespace Go.Proofs.Ytliggpidkdiinaa
open Go.RowKit Bx

theorem lit_row (w : World) (zs : List Int) (n : Nat) (hn : zs.length = n) (hm : n ≤ maxLen) : (w.alloc (.cells (ivs zs).toArray 3)).ownsRow w.heap.size 3 1 (.slice (some ⟨w.heap.size, 0, none⟩) n n) n (ivs zs) := by
  have h := World.ownsRow_lit (base := w.heap.size) (e := 3) (size := 1) w (ivs zs).toArray n (Nat.le_refl _) hm (by simp [ivs, hn])
  simpa using h

/-- Are all numbers from -2^40 to 2^40? -/
def near (zs : List Int) : Bool := zs.all (fun n => decide (-1099511627776 ≤ n) && decide (n ≤ 1099511627776))

theorem near_bd {zs : List Int} (h : near zs = true) : Bd 1099511627776 zs := by
  apply bd_of_mem
  intro n hn
  have := List.all_eq_true.1 h n hn
  simp only [Bool.and_eq_true, decide_eq_true_eq] at this
  exact this

theorem bd_near {zs : List Int} (h : Bd 1099511627776 zs) : near zs = true := by
  apply List.all_eq_true.2
  intro n hn
  have := h.mem n hn
  simp only [Bool.and_eq_true, decide_eq_true_eq]
  exact this

theorem near_not {zs : List Int} {i : Nat} (hi : i < zs.length) (h : zs.getD i 0 < -1099511627776 ∨ 1099511627776 < zs.getD i 0) : near zs = false := by
  cases hn : near zs with
  | false => rfl
  | true =>
    have := near_bd hn i hi
    omega

theorem near_step {zs : List Int} {i : Nat} (h : near (zs.take i) = true) (hi : i < zs.length) (h1 : ¬ zs.getD i 0 < -1099511627776) (h2 : ¬ 1099511627776 < zs.getD i 0) : near (zs.take (i + 1)) = true := by
  rw [List.take_succ_eq_append_getElem hi]
  simp only [List.getD_eq_getElem?_getD, List.getElem?_eq_getElem hi, Option.getD_some] at h1 h2
  unfold near at h ⊢
  rw [List.all_append, h]
  simp
  omega

def NearInv (v : Value) (zs : List Int) (w : World) (a : Act) (w' : World) : Prop :=
  a.defers = [] ∧ a.tmps.size = 22 ∧ a.tmps[0]? = some v ∧ ∃ i : Nat, i ≤ zs.length ∧ a.tmps[3]? = some (.int .i64 (i : Int)) ∧ near (zs.take i) = true ∧ w' = w

theorem sl_lit (w : World) (zs : List Int) (n : Nat) (hn : zs.length = n) (hm : n ≤ maxLen) : Sl (w.alloc (.cells (ivs zs).toArray 3)) (.slice (some ⟨w.heap.size, 0, none⟩) n n) (ivs zs) := sl_alloc w (ivs zs) 3 n (by rw [ivs_length]; exact hn) hm

theorem elem_ints : Try.prog.elem 22 = 3 := by kernel_rfl

theorem size_int (w : World) : (sizeOf 3).run Try.prog w = .ok 1 w := by
  obtain ⟨i, hi, hz, hsize, hby⟩ := info_parts info_int
  simp [sizeOf, typeInfo, hi, hsize]

/-- A slice of integers from k on. -/
theorem run_from_i (w : World) (ao : Option Addr) (len cap k : Nat) (h : k ≤ len) : (Instr.slice 22 (.slice ao len cap) (some (.int .i64 (k : Int))) none none).run Try.prog w = .ok (.slice (if cap = k then ao else ao.map (fun x => x.add k)) (len - k) (cap - k)) w := by
  have ht : Try.prog.underlying 22 = some (.slice (Try.prog.elem 22)) := by rw [elem_ints]; exact Try.underlying22
  rw [run_slice_l w 22 ao len cap ht .i64 (k : Int) (by omega) (by omega), elem_ints, size_int]
  simp [sliced]

theorem run_from_i_at (w : World) (ao : Option Addr) (len cap k : Nat) (h : k ≤ len) : (Instr.sliceAt 22 (.slice ao len cap) (some (.int .i64 (k : Int))) none none).run Try.prog w = .ok (.slice (if cap = k then ao else ao.map (fun x => x.add k)) (len - k) (cap - k)) w := by
  have ht : Try.prog.underlying 22 = some (.slice (Try.prog.elem 22)) := by rw [elem_ints]; exact Try.underlying22
  rw [run_sliceAt_slice w 22 _ _ _ _ ht, run_from_i w ao len cap k h]

/-- A slice of integers up to k. -/
theorem run_upto_i (w : World) (ao : Option Addr) (len cap k : Nat) (h : k ≤ cap) : (Instr.slice 22 (.slice ao len cap) none (some (.int .i64 (k : Int))) none).run Try.prog w = .ok (.slice ao k cap) w := by
  have ht : Try.prog.underlying 22 = some (.slice (Try.prog.elem 22)) := by rw [elem_ints]; exact Try.underlying22
  rw [run_slice_h w 22 ao len cap ht .i64 (k : Int) (by omega) (by omega), elem_ints, size_int]
  cases ao with
  | none => simp [sliced]
  | some a => simp [sliced, Addr.add]

theorem run_upto_i_at (w : World) (ao : Option Addr) (len cap k : Nat) (h : k ≤ cap) : (Instr.sliceAt 22 (.slice ao len cap) none (some (.int .i64 (k : Int))) none).run Try.prog w = .ok (.slice ao k cap) w := by
  have ht : Try.prog.underlying 22 = some (.slice (Try.prog.elem 22)) := by rw [elem_ints]; exact Try.underlying22
  rw [run_sliceAt_slice w 22 _ _ _ _ ht, run_upto_i w ao len cap k h]

theorem sl_take_i {w : World} {ao : Option Addr} {len cap : Nat} {zs : List Int} (h : Sl w (.slice ao len cap) (ivs zs)) (k : Nat) (hk : k ≤ len) : Sl w (.slice ao k cap) (ivs (zs.take k)) := by
  rw [← ivs_take]
  exact h.take k hk

theorem sl_ivs {w : World} {v : Value} {zs : List Int} (h : Sl w v (zs.map (Value.int .i64))) : Sl w v (ivs zs) := h

end Go.Proofs.Ytliggpidkdiinaa

namespace Go.Proofs.Ytliggpidkdiinaa
open Go.RowKit Bx

/-- The list L, its first i laid, the rest 0. -/
def fill (L : List Int) (i : Nat) : List Int := L.take i ++ List.replicate (L.length - i) 0

theorem fill_zero (L : List Int) : fill L 0 = List.replicate L.length 0 := by simp [fill]

theorem fill_last (L : List Int) : fill L L.length = L := by simp [fill]

theorem fill_length (L : List Int) (i : Nat) (h : i ≤ L.length) : (fill L i).length = L.length := by simp [fill]; omega

theorem fill_set (L : List Int) (i : Nat) (h : i < L.length) : (fill L i).set i (L.getD i 0) = fill L (i + 1) := by
  unfold fill
  obtain ⟨k, hk⟩ : ∃ k, L.length - i = k + 1 := ⟨L.length - i - 1, by omega⟩
  have hk2 : L.length - (i + 1) = k := by omega
  rw [hk, hk2, List.replicate_succ, List.set_append_right _ _ (by rw [List.length_take]; exact Nat.min_le_left _ _), List.take_succ_eq_append_getElem h]
  rw [List.length_take, Nat.min_eq_left (Nat.le_of_lt h), Nat.sub_self, List.set_cons_zero, List.append_assoc]
  simp [List.getD, h]

theorem lit_base (w : World) (base : Nat) (hb : base ≤ w.heap.size) (zs : List Int) (n : Nat) (hn : zs.length = n) (hm : n ≤ maxLen) : (w.alloc (.cells (ivs zs).toArray 3)).ownsRow base 3 1 (.slice (some ⟨w.heap.size, 0, none⟩) n n) n (ivs zs) := by
  have h := World.ownsRow_lit (base := base) (e := 3) (size := 1) w (ivs zs).toArray n hb hm (by simp [ivs, hn])
  simpa using h

theorem fill_cell {w : World} {base g m i : Nat} {L : List Int} (h : w.ownsRow base 3 1 (.slice (some ⟨g, 0, none⟩) m m) m (ivs (fill L i))) (hL : L.length = m) (hi : i < m) : ∃ z, w.cell? ⟨g, i, none⟩ = some z := by
  have e := fill_length L i (by omega)
  exact ⟨_, (h.cellAt i (by omega)).trans (ivs_get _ _ (by omega))⟩

/-- The cell of a slice's number, in any world that kept it. -/
theorem cell_kept {w : World} {ao : Option Addr} {cap : Nat} {zs : List Int} {m : Nat} (hs : Sl w (.slice ao m cap) (ivs zs)) (i : Nat) (hi : i < zs.length) : ∃ b off, ao = some ⟨b, off, none⟩ ∧ ∀ w', Kept Nix w w' → w'.cell? ⟨b, off + i, none⟩ = some (.int .i64 (zs.getD i 0)) := by
  obtain ⟨ao', cap', e, _, _, hp⟩ := hs.ints
  simp only [Value.slice.injEq] at e
  obtain ⟨rfl, -, -⟩ := e
  obtain ⟨b, off, e1, hb, hc⟩ := hp (by omega)
  exact ⟨b, off, e1, fun w' hk' => (World.cell?_of_block (hk'.block _ hb id)).trans (hc i hi)⟩

theorem bd_take {M : Int} {x : List Int} (h : Bd M x) (k : Nat) : Bd M (x.take k) := by
  apply bd_of_mem
  intro n hn
  exact h.mem n (List.mem_of_mem_take hn)

theorem bd_drop {M : Int} {x : List Int} (h : Bd M x) (k : Nat) : Bd M (x.drop k) := by
  apply bd_of_mem
  intro n hn
  exact h.mem n (List.mem_of_mem_drop hn)

theorem sl_drop_i {w : World} {ao : Option Addr} {len cap : Nat} {zs : List Int} (h : Sl w (.slice ao len cap) (ivs zs)) (k : Nat) (hk : k ≤ len) : Sl w (.slice (if cap = k then ao else ao.map (fun x => x.add k)) (len - k) (cap - k)) (ivs (zs.drop k)) := by
  have e : ivs (zs.drop k) = (ivs zs).drop k := by simp [ivs]
  rw [e]
  exact h.drop k hk

theorem src_row {w w' : World} {base n : Nat} {ao : Option Addr} {cap : Nat} {zs : List Int} (h : w.ownsRow base 3 1 (.slice ao n cap) n (ivs zs)) (hk : Kept Nix w w') : SrcIs w' 1 ao n cap (ivs zs) := by
  obtain ⟨ao', c', e, hs⟩ := src_of_sl ((sl_of_owns h).nix hk) (ivs_one _)
  simp only [Value.slice.injEq] at e
  obtain ⟨rfl, rfl, rfl⟩ := e
  exact hs

end Go.Proofs.Ytliggpidkdiinaa

namespace Go.Proofs.Ytliggpidkdiinaa
open Go.RowKit Bx

theorem size_i : (Try.prog.info? 3).map (·.size) = some 1 := by kernel_rfl

theorem u64_small (n : Nat) (h : n < 18446744073709551616) : IntKind.u64.wrap (n : Int) = (n : Int) := by
  exact IntWalk.u64_in _ (by omega)

set_option maxHeartbeats 400000 in
theorem mul64_any (o : Nat) (ho : o ≤ 15) (w : World) : Calls Try.prog 49 #[.int .u64 1, .int .u64 ((2 ^ o : Nat) : Int)] w fun e w' => e = .returned (.tuple #[.int .u64 0, .int .u64 ((2 ^ o : Nat) : Int)]) ∧ w' = w := by
  have key : ∀ o, o ∈ List.range 16 → Calls Try.prog 49 #[.int .u64 1, .int .u64 ((2 ^ o : Nat) : Int)] w fun e w' => e = .returned (.tuple #[.int .u64 0, .int .u64 ((2 ^ o : Nat) : Int)]) ∧ w' = w := by
    intro o ho
    simp only [List.range, List.range.loop, List.mem_cons, List.not_mem_nil, or_false] at ho
    rcases ho with rfl | rfl | rfl | rfl | rfl | rfl | rfl | rfl | rfl | rfl | rfl | rfl | rfl | rfl | rfl | rfl
    all_goals
      go_enter Try.func49, Try.ntmps49
      go_wp2
      go_ret2
      exact ⟨rfl, rfl⟩
  exact key o (List.mem_range.2 (by omega))

theorem mul_any (o : Nat) (ho : o ≤ 15) (w : World) : Calls Try.prog 38 #[.int .u64 1, .int .u64 ((2 ^ o : Nat) : Int)] w fun e w' => e = .returned (.tuple #[.int .u64 0, .int .u64 ((2 ^ o : Nat) : Int)]) ∧ w' = w := by
  have M := Lib.hid (mul64_any o ho w)
  generalize ((2 ^ o : Nat) : Int) = n at *
  clear ho
  go_enter Try.func38, Try.ntmps38
  go_wp2_with (go_at_call 49; refine M.out.mono ?_; rintro e w2 ⟨rfl, rfl⟩; clear M)
  go_ret2
  exact ⟨rfl, rfl⟩

/-- Filled so far. -/
def rpt (a : Int) (n m : Nat) : List Int := List.replicate m a ++ List.replicate (n - m) 0

theorem rpt_length (a : Int) {n m : Nat} (h : m ≤ n) : (rpt a n m).length = n := by simp [rpt]; omega
theorem rpt_splice (a : Int) {n m c : Nat} (h : m + c ≤ n) : splice (ivs (rpt a n m)) m (ivs (List.replicate c a)) = ivs (rpt a n (m + c)) := by
  unfold splice rpt ivs
  rw [← List.map_take, ← List.map_drop, ← List.map_append, ← List.map_append]
  congr 1
  rw [List.take_append_of_le_length (by simp), List.length_map, List.length_replicate, List.drop_append, List.drop_replicate, List.take_replicate, List.length_replicate, List.drop_replicate]
  rw [show m - (m + c) = 0 by omega, List.replicate_zero, List.nil_append, Nat.min_self, ← List.append_assoc, List.replicate_append_replicate]
  congr 2
  omega
theorem rpt_get (a : Int) {n m j : Nat} (h : j < m) : (rpt a n m).getD j 0 = a := by
  unfold rpt
  simp [List.getD, List.getElem?_append_left, h]

theorem rpt_cells {w : World} {g n m c : Nat} {a : Int} (h : w.heap[g]? = some (.cells (ivs (rpt a n m)).toArray 3 (0, 0))) (hm : m ≤ n) (hc : c ≤ m) : ∀ j v, (ivs (List.replicate c a))[j]? = some v → w.cell? ((⟨g, 0, none⟩ : Addr).add j) = some v := by
  intro j v hv
  have hj : j < c := by
    have := (List.getElem?_eq_some_iff.1 hv).1
    simpa [ivs] using this
  rw [Addr.add_lit, cell_of h, Nat.zero_add, List.getElem?_toArray]
  have e : (ivs (rpt a n m))[j]? = some (.int .i64 a) := by
    rw [ivs_get _ _ (by rw [rpt_length a hm]; omega), rpt_get a (by omega)]
  rw [e]
  unfold ivs at hv
  rw [List.getElem?_map, List.getElem?_replicate, if_pos hj] at hv
  exact hv

def RepInv (g n : Nat) (a : Int) (w : World) (f : Act) (w' : World) : Prop :=
  f.defers = [] ∧ f.tmps.size = 48 ∧ f.tmps[7]? = some (.slice (some ⟨g, 0, none⟩) n n) ∧ ∃ m : Nat, 1 ≤ m ∧ m ≤ n ∧ f.tmps[8]? = some (.int .i64 (m : Int)) ∧ Hid (w'.heap[g]? = some (.cells (ivs (rpt a n m)).toArray 3 (0, 0))) ∧ Kept Nix w w'

theorem below_new {w w1 w2 : World} (h : Kept Nix w w1) (hb : Below w.heap.size w1 w2) : Kept Nix w w2 :=
  h.trans (S' := fun k => w.heap.size ≤ k) ⟨hb.os, hb.tape, hb.output, hb.size, fun k _ hk => hb.block k (by omega)⟩ (fun _ h => h) (fun j hj e => by omega)

set_option maxRecDepth 10000 in
set_option maxHeartbeats 1000000 in
theorem rep_any (a : Int) (v : Value) (o : Nat) (ho : o ≤ 15) (w : World) (hs : Sl w v (ivs [a])) :
    Calls Try.prog 23 #[v, .int .i64 ((2 ^ o : Nat) : Int)] w fun e w' => ∃ g, e = .returned (.slice (some ⟨g, 0, none⟩) (2 ^ o) (2 ^ o)) ∧ w.heap.size ≤ g ∧ w'.heap[g]? = some (.cells (ivs (List.replicate (2 ^ o) a)).toArray 3 (0, 0)) ∧ Kept Nix w w' := by
  have MU := Lib.hid (mul_any o ho w)
  have hp := Nat.two_pow_pos o
  have hp2 : 2 ^ o ≤ 32768 := Nat.pow_le_pow_right (n := 2) (by decide) ho
  generalize 2 ^ o = n at *
  obtain ⟨ao, ca, rfl, hca, hcm, hp3⟩ := hs.ints
  obtain ⟨b, off, rfl, hb, hcell⟩ := hp3 (Nat.succ_pos _)
  have C0 := hcell 0 (Nat.succ_pos _)
  simp only [List.length_cons, List.length_nil, Nat.zero_add] at hca ⊢
  have t0 : decide ((n : Int) < 0) = false := decide_eq_false (by omega)
  have t1 : decide ((0 : Int) < 0) = false := rfl
  have t2 : decide ((9223372036854775807 : Int) < (n : Int)) = false := decide_eq_false (by omega)
  have hw : wrap64 (n : Int) = (n : Int) := w64_in _ (by omega)
  have e1 : IntKind.u64.wrap (n : Int) = (n : Int) := u64_small n (by omega)
  have hmk := make_int n (by omega) w
  have HP := Lib.hid hp
  have HP2 := Lib.hid hp2
  clear ho hs hp3 hcell hp hp2 hca hcm
  go_enter Try.func23, Try.ntmps23
  go_upto_region 7 with (go_at_call 38; refine MU.out.mono ?_; rintro e w2 ⟨rfl, rfl⟩; clear MU)
  have h1 : (w2.alloc (.cells (ivs (List.replicate n 0)).toArray 3)).heap[w2.heap.size]? = some (.cells (ivs (rpt a n 0)).toArray 3 (0, 0)) := by
    rw [show rpt a n 0 = List.replicate n 0 by simp [rpt]]
    exact heap_alloc_new _ _
  have H1 := Lib.hid h1
  have K1 := Lib.hid (show Kept Nix w2 (w2.alloc (.cells (ivs (List.replicate n 0)).toArray 3)) from (Kept.refl _ _).alloc _)
  have SRC := Lib.hid (show ∀ j x, (ivs [a])[j]? = some x → (w2.alloc (.cells (ivs (List.replicate n 0)).toArray 3)).cell? ((⟨b, off, none⟩ : Addr).add j) = some x from fun j x hx => by
    have hj := (List.getElem?_eq_some_iff.1 hx).1
    simp [ivs] at hj
    subst hj
    rw [Addr.add_lit, World.cell?_of_block (K1.out.block b hb id)]
    rw [show (ivs [a])[0]? = some (.int .i64 a) from rfl] at hx
    rw [← hx]
    exact C0)
  have SPL := Lib.hid (show splice (ivs (rpt a n 0)) 0 (ivs [a]) = ivs (rpt a n 1) from rpt_splice a (n := n) (m := 0) (c := 1) (by have := HP.out; omega))
  generalize w2.alloc (.cells (ivs (List.replicate n 0)).toArray 3) = w3 at *
  have HG := Lib.hid (show w2.heap.size ≤ w2.heap.size from Nat.le_refl _)
  generalize hgg : w2.heap.size = g at *
  clear h1 hmk C0 t0 t1 t2 hb
  have SPL2 := Lib.hid (show (ivs (rpt a n 0)).length = n by rw [ivs_length, rpt_length a (Nat.zero_le _)])
  have MIN := Lib.hid (show (ivs [a]).length = Nat.min 1 n from (Nat.min_eq_left HP.out).symm)
  have FIT := Lib.hid (show 0 + (ivs [a]).length ≤ (ivs (rpt a n 0)).length by rw [SPL2.out]; have := HP.out; simp [ivs]; omega)
  have ONE := Lib.hid (ivs_one [a])
  have LEN : (ivs [a]).length = 1 := rfl
  generalize ivs [a] = cs at *
  generalize ivs (rpt a n 0) = cur at *
  go_wp2_with (refine wpList_copy_splice rfl _ _ _ _ rfl 3 Try.underlying22 size_i (some ⟨g, 0, none⟩) (some ⟨b, off, none⟩) n n 1 ca rfl rfl g 0 cur 3 H1.out cs MIN.out (fun _ => ⟨rfl, _, rfl, SRC.out⟩) FIT.out ONE.out g w3 (Below.refl _ _) HG.out ?_
               intro w4 h4 hb4; have H4 := Lib.hid h4.out; have B4 := Lib.hid hb4; clear h4 hb4; rw [LEN])
  refine wp_loop (RepInv g n a w2) (fun f _ => n - (intOf (f.tmps.getD 8 undef)).toNat) ?_ ?_
  · refine ⟨rfl, rfl, rfl, 1, Nat.le_refl _, HP.out, rfl, ?_, ?_⟩
    · exact Lib.hid (H4.out.trans (by rw [SPL.out]))
    · subst hgg
      exact below_new K1.out B4.out
  · clear H4 B4 SRC H1 K1 HG SPL SPL2 MIN FIT ONE LEN
    rintro ⟨tm, df⟩ w5 ⟨rfl, hs, e7, m, hm1, hm2, e8, h5, k5⟩
    simp only at hs e7 e8
    obtain ⟨f, hf, hg⟩ := fr_open hs
    have g7 := hg _ _ e7
    have g8 := hg _ _ e8
    simp only [List.range, List.range.loop, List.map] at hf
    rw [g7, g8] at hf
    clear g7 g8 hg hs e7 e8
    subst hf
    have H5 := Lib.hid h5.out
    have K5 := Lib.hid k5
    clear h5 k5
    by_cases hlt : m < n
    · have hd : decide (m < n) = true := decide_eq_true hlt
      have r1 : ∀ w, (Instr.slice 22 (.slice (some ⟨g, 0, none⟩) n n) (some (.int .i64 (m : Int))) none none).run Try.prog w = .ok (.slice (some ⟨g, m, none⟩) (n - m) (n - m)) w := fun w => by
        rw [run_from_i w _ n n m hm2, if_neg (by omega)]
        simp [Addr.add]
        omega
      have r2 : ∀ w, (Instr.slice 22 (.slice (some ⟨g, 0, none⟩) n n) none (some (.int .i64 (m : Int))) none).run Try.prog w = .ok (.slice (some ⟨g, 0, none⟩) m n) w := fun w => run_upto_i w _ n n m hm2
      obtain ⟨c, hc⟩ : ∃ c, Nat.min m (n - m) = c := ⟨_, rfl⟩
      have hc2 : c ≤ m ∧ m + c ≤ n ∧ 1 ≤ c := by
        have : c = min m (n - m) := hc.symm
        omega
      have LEN := Lib.hid (show (ivs (List.replicate c a)).length = c by simp [ivs])
      have MIN := Lib.hid (show (ivs (List.replicate c a)).length = Nat.min m (n - m) by rw [LEN.out, hc])
      have FIT := Lib.hid (show m + (ivs (List.replicate c a)).length ≤ (ivs (rpt a n m)).length by rw [LEN.out, ivs_length, rpt_length a hm2]; omega)
      have ONE := Lib.hid (ivs_one (List.replicate c a))
      have SPL := Lib.hid (rpt_splice a (n := n) (m := m) (c := c) hc2.2.1)
      have SRC := Lib.hid (rpt_cells (w := w5.drew) H5.out hm2 hc2.1)
      have HA := Lib.hid (show IntKind.i64.wrap ((m : Int) + (c : Int)) = ((m + c : Nat) : Int) by have := HP2.out; rw [IntWalk.i64_in _ (by omega)]; omega)
      have HM := Lib.hid (show m < m + c ∧ m + c ≤ n ∧ 1 ≤ m + c by omega)
      have H6 : Hid (w5.drew.heap[g]? = some (.cells (ivs (rpt a n m)).toArray 3 (0, 0))) := Lib.hid H5.out
      have BG := Lib.hid (show w2.heap.size ≤ g by omega)
      have HWD : Hid (∀ w', Below w2.heap.size w5.drew w' → Kept Nix w2 w') := Lib.hid (fun w' h => below_new K5.out.drew h)
      clear hm1 hm2 hlt hc hc2
      generalize ivs (List.replicate c a) = cs at *
      generalize ivs (rpt a n m) = cur at *
      go_upto_region 9 with fail
      go_region_law
        (first
          | (refine step_copy_splice rfl (.tmp 41) (.tmp 44) 22 22 rfl 3 Try.underlying22 size_i (some ⟨g, m, none⟩) (some ⟨g, 0, none⟩) (n - m) (n - m) m n (by kernel_rfl) (by kernel_rfl) g m cur 3 H6.out cs MIN.out (fun _ => ⟨rfl, _, rfl, SRC.out⟩) FIT.out ONE.out w2.heap.size w5.drew (Below.refl _ _) BG.out ?_; intro w6 h6 b6; rw [LEN.out, SPL.out] at *))
      all_goals
        have H7 := Lib.hid h6.out
        have K7 := Lib.hid (HWD.out _ b6)
        clear H6 HWD h6 b6 r1 r2
        go_wp2
        refine ⟨⟨rfl, rfl, rfl, m + c, HM.out.2.2, HM.out.2.1, ?_, H7, K7.out⟩, ?_⟩
        · rw [← HA.out]; rfl
        · show n - (intOf (.int .i64 (IntKind.i64.wrap ((m : Int) + (c : Int))))).toNat < n - (intOf (.int .i64 (m : Int))).toNat
          rw [HA.out]
          have := HM.out
          simp only [intOf, Int.toNat_natCast]
          omega
    · obtain rfl : m = n := by omega
      have hd : decide ((m : Int) < (m : Int)) = false := by simp
      clear hlt hm1 hm2
      go_wp2
      go_ret
      refine ⟨g, rfl, by rw [hgg]; exact Nat.le_refl _, ?_, K5.out⟩
      have := H5.out
      rwa [show rpt a m m = List.replicate m a by simp [rpt]] at this

end Go.Proofs.Ytliggpidkdiinaa

namespace Go.Proofs.Ytliggpidkdiinaa
open Go.RowKit Bx

def CutsPost (n : Nat) (k o : Int) (w : World) (e : Ending) (w' : World) : Prop :=
  ∃ u, e = .returned u ∧ w'.ownsRow w.heap.size 3 1 u (ctI n k o).length (ivs (ni (ctI n k o))) ∧ Kept Nix w w'

theorem cuts_none {n : Nat} {k o : Int} (h : ctI n k o = []) (w : World) : CutsPost n k o w (.returned (.slice none 0 0)) w :=
  ⟨_, rfl, by rw [h]; exact World.ownsRow_nil _ _ _ _, Kept.refl _ _⟩

theorem cuts_far {n : Nat} {k o : Int} (h : k < 0 ∨ o < 0 ∨ 15 < o) : ctI n k o = [] := by
  unfold ctI
  split
  · apply cts_none
    unfold cutOk
    rw [decide_eq_false (by omega)]
    rfl
  · rfl

theorem cuts_test {k o : Int} (h : k < 0 ∨ o < 0 ∨ 15 < o) : decide (k < 0) = true ∨ (decide (k < 0) = false ∧ decide (o < 0) = true) ∨ (decide (k < 0) = false ∧ decide (o < 0) = false ∧ decide (15 < o) = true) := by
  simp only [decide_eq_true_eq, decide_eq_false_iff_not]
  omega

structure CutNums (n K O B S Q R : Nat) (P : Int) : Prop where
  e3 : IntKind.u64.wrap ((n : Int) + (K : Int)) = (B : Int)
  e4 : (B : Int) / 2 ^ O = (S : Int)
  e5 : IntKind.u64.wrap ((S : Int) * 2 ^ O) = (Q : Int)
  e6 : wrap64 (2 ^ O) = P
  e7 : wrap64 (S : Int) = (S : Int)
  e8 : K < S → IntKind.u64.wrap ((S : Int) - (K : Int)) = (R : Int)
  e9 : wrap64 (R : Int) = (R : Int)
  hP : ((2 ^ O : Nat) : Int) = P
  ok : cutOk n K O = (decide (Q = B) && decide (K < S))
  ct : cutOk n K O = true → cts n K O = R :: List.replicate (2 ^ O - 1) S

theorem sub_int {S K R : Nat} (h : S - K = R) (h2 : K < S) : (S : Int) - (K : Int) = (R : Int) := by omega
theorem small_i (n : Nat) (h : n ≤ 9223372036854775807) : wrap64 (n : Int) = (n : Int) := by unfold wrap64; omega

theorem cut_nums (n K O : Nat) (hn : n ≤ 1048576) (hk : K ≤ 1099511627776) (hO : O ≤ 15) : ∃ (B S Q R : Nat) (P : Int), CutNums n K O B S Q R P := by
  have hQB : (n + K) / 2 ^ O * 2 ^ O ≤ n + K := Nat.div_mul_le_self _ _
  have hSB : (n + K) / 2 ^ O ≤ n + K := Nat.div_le_self _ _
  have hdm := Nat.div_add_mod (n + K) (2 ^ O)
  have hp : 2 ^ O ≤ 32768 := Nat.pow_le_pow_right (n := 2) (by decide) hO
  refine ⟨n + K, (n + K) / 2 ^ O, (n + K) / 2 ^ O * 2 ^ O, (n + K) / 2 ^ O - K, ((2 ^ O : Nat) : Int), ?_, by simp, ?_, ?_, ?_, ?_, ?_, rfl, ?_, ?_⟩
  · rw [show (n : Int) + (K : Int) = ((n + K : Nat) : Int) by omega]; exact u64_small _ (by omega)
  · rw [show (((n + K) / 2 ^ O : Nat) : Int) * 2 ^ O = (((n + K) / 2 ^ O * 2 ^ O : Nat) : Int) by simp]
    exact u64_small _ (by omega)
  · rw [show (2 : Int) ^ O = ((2 ^ O : Nat) : Int) by simp]
    exact small_i _ (by omega)
  · exact small_i _ (by omega)
  · intro h
    rw [sub_int rfl h]
    exact u64_small _ (by omega)
  · exact small_i _ (by omega)
  · unfold cutOk
    rw [decide_eq_true hO, Bool.true_and]
    have : (n + K) % 2 ^ O = 0 ↔ (n + K) / 2 ^ O * 2 ^ O = n + K := by rw [Nat.mul_comm] at hdm; omega
    rw [decide_eq_decide.2 this]
  · intro h
    unfold cts
    rw [if_pos h]

theorem owns_heap {w : World} {base g n : Nat} {L : List Int} (h : w.heap[g]? = some (.cells (ivs L).toArray 3 (0, 0))) (hb : base ≤ g) (hl : L.length = n) (hn : n ≤ maxLen) : w.ownsRow base 3 1 (.slice (some ⟨g, 0, none⟩) n n) n (ivs L) :=
  ⟨by rw [ivs_length, hl, Nat.mul_one], .inr ⟨g, n, _, rfl, hb, h, Nat.le_refl _, hn, by simp [ivs, hl], by rw [Nat.mul_one, List.take_of_length_le (by simp [ivs, hl])]⟩⟩

set_option maxRecDepth 10000 in
set_option maxHeartbeats 1000000 in
theorem pcuts_any (n : Nat) (k o : Int) (w : World) (hn : n ≤ 1048576) (hk : k ≤ 1099511627776) : Calls Try.prog 12 #[.int .i64 (n : Int), .int .i64 k, .int .i64 o] w (CutsPost n k o w) := by
  have tn : decide ((n : Int) < 0) = false := decide_eq_false (by omega)
  by_cases hf : k < 0 ∨ o < 0 ∨ 15 < o
  · have HP := Lib.hid (cuts_none (cuts_far (n := n) hf) w)
    rcases cuts_test hf with t1 | ⟨t1, t2⟩ | ⟨t1, t2, t3⟩
    all_goals
      clear hf hn hk
      go_enter Try.func12, Try.ntmps12
      go_wp2
      go_ret
      exact HP.out
  · obtain ⟨K, rfl⟩ : ∃ K : Nat, k = (K : Int) := ⟨k.toNat, by omega⟩
    obtain ⟨O, rfl⟩ : ∃ O : Nat, o = (O : Int) := ⟨o.toNat, by omega⟩
    have hO : O ≤ 15 := by omega
    have t1 : decide ((K : Int) < 0) = false := decide_eq_false (by omega)
    have t2 : decide ((O : Int) < 0) = false := decide_eq_false (by omega)
    have t3 : decide (15 < (O : Int)) = false := decide_eq_false (by omega)
    have e1 := u64_small n (by omega)
    have e2 := u64_small K (by omega)
    have e0 : min O 64 = O := by omega
    obtain ⟨B, S, Q, R, P, hN⟩ := cut_nums n K O hn (by omega) hO
    have e3 := hN.e3
    have e4 := hN.e4
    have e5 := hN.e5
    have HN := Lib.hid hN
    have HO := Lib.hid hO
    clear hf hk hn hN
    by_cases hq : Q = B ∧ K < S
    · have t4 : ((Q : Int) != (B : Int)) = false := by simp [hq.1]
      have t5 : decide (S ≤ K) = false := decide_eq_false (by omega)
      have OK := Lib.hid (show cutOk n K O = true by rw [HN.out.ok, decide_eq_true hq.1, decide_eq_true hq.2]; rfl)
      have e6 := HN.out.e6
      have e7 := HN.out.e7
      have e8 := HN.out.e8 hq.2
      have e9 := HN.out.e9
      have RP := Lib.hid (rep_any (S : Int) (.slice (some ⟨w.heap.size, 0, none⟩) 1 1) O hO (w.alloc (.cells #[.int .i64 (S : Int)] 3)) (sl_alloc w (ivs [(S : Int)]) 3 1 rfl (by decide)))
      rw [HN.out.hP] at RP
      have HP1 := Lib.hid (Nat.two_pow_pos O)
      clear hO hq
      generalize hpp : 2 ^ O = p at *
      have HPP := Lib.hid hpp
      clear hpp
      go_enter Try.func12, Try.ntmps12
      go_upto_region 8 with (go_at_call 23; refine RP.out.mono ?_; rintro e w2 ⟨g, rfl, hg1, hg2, k2⟩; have HG1 := Lib.hid hg1; have HG2 := Lib.hid hg2; have K2 := Lib.hid k2; clear hg1 hg2 k2 RP)
      have hp0 : 0 < p := HP1.out
      have y0 : w2.cell? ⟨g, 0, none⟩ = some (.int .i64 (S : Int)) := by
        rw [cell_of HG2.out, List.getElem?_toArray, ivs_get _ _ (by simpa using hp0)]
        congr 2
        simp [List.getD, hp0]
      have z0 := frozen_of (i := 0) HG2.out
      go_wp2
      go_ret
      have hh : (w2.setCell ⟨g, 0, none⟩ (.int .i64 (R : Int))).heap[g]? = some (.cells (ivs (ni (R :: List.replicate (p - 1) S))).toArray 3 (0, 0)) := by
        rw [heap_set HG2.out]
        congr 2
        obtain ⟨q, rfl⟩ : ∃ q, p = q + 1 := ⟨p - 1, by omega⟩
        simp [ivs, ni, List.replicate_succ]
      refine ⟨_, rfl, ?_, (nix_trans ((Kept.refl _ w).alloc _) K2.out).setCell (.inr (by have := HG1.out; simp at this; show w.heap.size ≤ g; omega)) _⟩
      rw [ctI_nat, HN.out.ct OK.out, HPP.out]
      have HPM := Lib.hid (show p ≤ maxLen by rw [← HPP.out]; have := Nat.pow_le_pow_right (n := 2) (by decide) HO.out; simp only [maxLen]; omega)
      have hlen : (ni (R :: List.replicate (p - 1) S)).length = p := by rw [ni_length]; simp; omega
      rw [show (R :: List.replicate (p - 1) S).length = p by simp; omega]
      exact owns_heap hh (by have := HG1.out; simp at this; omega) hlen HPM.out
    · have HF := Lib.hid (cuts_none (n := n) (k := (K : Int)) (o := (O : Int)) (by
        rw [ctI_nat]
        apply cts_none
        rw [HN.out.ok]
        simp only [Bool.and_eq_false_iff, decide_eq_false_iff_not]
        omega) w)
      have ht : ((Q : Int) != (B : Int)) = true ∨ (((Q : Int) != (B : Int)) = false ∧ decide (S ≤ K) = true) := by
        by_cases h1 : Q = B
        · right
          exact ⟨by simp [h1], decide_eq_true (by omega)⟩
        · left
          exact bne_iff_ne.2 (by omega)
      clear hq hO
      rcases ht with t4 | ⟨t4, t5⟩
      all_goals
        go_enter Try.func12, Try.ntmps12
        go_upto_if 42 with fail
        go_wp2
        go_ret
        exact HF.out

end Go.Proofs.Ytliggpidkdiinaa

namespace Go.Proofs.Ytliggpidkdiinaa
open Go.RowKit Bx

theorem made_one (v : Value) (n : Nat) : madeCells #[v] n = (List.replicate n v).toArray := by
  apply Array.ext
  · simp [size_madeCells]
  · intro i h1 h2
    simp [madeCells, Nat.mod_one]

/-- So many slices that are nil. -/
def nils (n : Nat) : List Value := List.replicate n (.slice none 0 0)

theorem make_rws (n : Nat) (h : n ≤ 1099511627776) (w : World) : (Instr.makeSlice 48 (.int .i64 (n : Int)) (.int .i64 (n : Int))).run Try.prog w = .ok (.slice (some ⟨w.heap.size, 0, none⟩) n n) (w.alloc (.cells (nils n).toArray 22)) := by
  unfold nils
  rw [← made_one]
  exact run_make_row' (P := Try.prog) 48 22 (.slice none 0 0) 24 Try.underlying48 info_ints rfl .i64 .i64 n (by omega) (by omega) w

theorem kept_set_new {w w' : World} (h : Kept Nix w w') {g i : Nat} (hg : w.heap.size ≤ g) (u : Value) : Kept Nix w (w'.setCell ⟨g, i, none⟩ u) := h.setCell (.inr hg) u

def CutInv (vc : Value) (g : Nat) (L : List Int) (C : List Nat) (w : World) (a : Act) (w' : World) : Prop :=
  a.defers = [] ∧ a.tmps.size = 29 ∧ a.tmps[5]? = some (.slice (some ⟨g, 0, none⟩) C.length C.length) ∧ a.tmps[11]? = some vc ∧ a.tmps[12]? = some (.int .i64 (C.length : Int)) ∧
  ∃ i : Nat, i ≤ C.length ∧ a.tmps[13]? = some (.int .i64 (i : Int)) ∧ ∃ (vr : Value) (us : List Value), a.tmps[0]? = some vr ∧ Sl w vr (ivs (L.drop (C.take i).sum)) ∧ us.length = C.length ∧ Hid (w'.heap[g]? = some (.cells us.toArray 22 (0, 0))) ∧
    (∀ j, j < i → ∃ u, us[j]? = some u ∧ Sl w u (ivs ((pcz L C).getD j []))) ∧ Kept Nix w w'

theorem sum_next (C : List Nat) (i : Nat) (h : i < C.length) : (C.take (i + 1)).sum = (C.take i).sum + C.getD i 0 := by
  rw [List.take_succ_eq_append_getElem h, List.sum_append]
  simp [List.getD, h]
theorem sum_take_le (C : List Nat) (i : Nat) : (C.take i).sum ≤ C.sum := by
  have h : C.sum = (C.take i).sum + (C.drop i).sum := by rw [← List.sum_append, List.take_append_drop]
  omega

theorem chs_heap {w : World} {g n : Nat} {us : List Value} {P : List (List Int)} (h : w.heap[g]? = some (.cells us.toArray 22 (0, 0))) (hl : us.length = n) (hP : P.length = n) (hn : n ≤ maxLen) (hu : ∀ j, j < n → ∃ u, us[j]? = some u ∧ Sl w u (ivs (P.getD j []))) : Chs w (.slice (some ⟨g, 0, none⟩) n n) P := by
  have hg := (Array.getElem?_eq_some_iff.1 h).1
  refine ⟨us, ⟨some ⟨g, 0, none⟩, n, by rw [hl], by omega, hn, fun h => by simp at h, fun _ => ⟨g, 0, rfl, hg, fun j u hu => ?_⟩⟩, by omega, fun i hi => hu i (by omega)⟩
  rw [cell_of h, Nat.zero_add, List.getElem?_toArray]
  exact hu

set_option maxRecDepth 10000 in
set_option maxHeartbeats 2000000 in
theorem pcut_any (L : List Int) (C : List Nat) (vl vc : Value) (w : World) (hL : Sl w vl (ivs L)) (hC : Sl w vc (ivs (ni C))) (hs : C.sum ≤ L.length) (hl : L.length ≤ 1048576) (hcl : C.length ≤ 32768) :
    Calls Try.prog 25 #[vl, vc] w fun e w' => ∃ u, e = .returned u ∧ Chs w' u (pcz L C) ∧ Kept Nix w w' := by
  obtain ⟨ao, ca, rfl, -⟩ := hL.ints
  obtain ⟨bo, cb, rfl, -⟩ := hC.ints
  rw [ni_length] at hC ⊢
  have hmk := make_rws C.length (by omega) w
  have h1 := heap_alloc_new w (.cells (nils C.length).toArray 22)
  have H1 := Lib.hid h1
  have K1 := Lib.hid (show Kept Nix w (w.alloc (.cells (nils C.length).toArray 22)) from (Kept.refl _ _).alloc _)
  have HL := Lib.hid hL
  have HC := Lib.hid hC
  have HS := Lib.hid hs
  have HLL := Lib.hid hl
  have HCL := Lib.hid hcl
  clear hL hC hs hl hcl h1
  obtain ⟨m, hm⟩ : ∃ m, C.length = m := ⟨_, rfl⟩
  have HM := Lib.hid hm
  rw [hm] at hmk H1 K1 HC ⊢
  go_enter Try.func25, Try.ntmps25
  go_upto_region 2 with fail
  clear hmk
  generalize w.alloc (.cells (nils m).toArray 22) = w1 at *
  obtain ⟨g, hg⟩ : ∃ g, w.heap.size = g := ⟨_, rfl⟩
  have HG := Lib.hid hg
  rw [hg] at H1 ⊢
  clear hm hg
  go_wp2
  refine wp_loop (CutInv (.slice bo m cb) g L C w) (fun a _ => m - (intOf (a.tmps.getD 13 undef)).toNat) ?_ ?_
  · rw [← HM.out]
    exact ⟨rfl, rfl, rfl, rfl, rfl, 0, Nat.zero_le _, rfl, _, nils C.length, rfl, HL.out, by simp [nils], Lib.hid (by rw [HM.out]; exact H1.out), fun j hj => absurd hj (Nat.not_lt_zero _), K1.out⟩
  · clear H1 K1
    rintro ⟨tm, df⟩ w2 ⟨rfl, hs, e5, e11, e12, i, hi, e13, vr, us, e0, sr, hul, hh, hus, hk⟩
    simp only at hs e5 e11 e12 e13 e0
    rw [HM.out] at e5 e12 hi hul
    obtain ⟨ro, rc, rfl, hrc, -⟩ := sr.ints
    obtain ⟨f, hf, hg⟩ := fr_open hs
    have g5 := hg _ _ e5
    have g11 := hg _ _ e11
    have g12 := hg _ _ e12
    have g13 := hg _ _ e13
    have g0 := hg _ _ e0
    simp only [List.range, List.range.loop, List.map] at hf
    rw [g5, g11, g12, g13, g0] at hf
    clear g5 g11 g12 g13 g0 hg hs e5 e11 e12 e13 e0
    subst hf
    have HH := Lib.hid hh.out
    have HUS := Lib.hid hus
    have HUL := Lib.hid hul
    have HK := Lib.hid hk
    have SR := Lib.hid sr
    clear hh hus hul hk sr
    by_cases hlt : i < m
    · have hdd : decide (i < m) = true := decide_eq_true hlt
      have hi1 : (i : Int) < (m : Int) := by omega
      have hic : i < C.length := by rw [HM.out]; exact hlt
      obtain ⟨b1, o1, rfl, hc1⟩ := cell_kept HC.out i (by rw [ni_length]; exact hic)
      have x1 := hc1 _ HK.out
      rw [ni_get] at x1
      have hsn := sum_next C i hic
      have hsl := sum_take_le C (i + 1)
      have hpg := pcz_get L C i hic
      have hdl : (L.drop (C.take i).sum).length = L.length - (C.take i).sum := by simp
      rw [hdl] at hrc SR ⊢
      have hcc : C.getD i 0 ≤ L.length - (C.take i).sum := by have := HS.out; omega
      have r1 := fun w => run_upto_i w ro (L.length - (C.take i).sum) rc (C.getD i 0) (by omega)
      have r2 := fun w => run_from_i w ro (L.length - (C.take i).sum) rc (C.getD i 0) hcc
      have S1 := Lib.hid (sl_take_i SR.out (C.getD i 0) hcc)
      have S2 := Lib.hid (sl_drop_i SR.out (C.getD i 0) hcc)
      rw [← hpg] at S1
      rw [List.drop_drop, ← hsn] at S2
      obtain ⟨V, hV⟩ : ∃ V, (Value.slice (if rc = C.getD i 0 then ro else ro.map (fun x => x.add (C.getD i 0))) (L.length - (C.take i).sum - C.getD i 0) (rc - C.getD i 0)) = V := ⟨_, rfl⟩
      rw [hV] at r2 S2
      have y0 : w2.drew.cell? ⟨g, i, none⟩ = some (us.getD i undef) := by rw [cell_of (w := w2.drew) HH.out, List.getElem?_toArray]; have := HUL.out; simp [List.getD, show i < us.length by omega]
      have z0 : w2.drew.frozen? ⟨g, i, none⟩ = false := frozen_of (w := w2.drew) HH.out
      have HI := Lib.hid hlt
      have HW := Lib.hid (show wrap64 ((i : Int) + 1) = ((i + 1 : Nat) : Int) by have := HCL.out; have := HM.out; rw [w64_in _ (by omega)]; omega)
      clear hc1 hlt hi hic hsn hsl hpg hdl hcc hrc hV SR
      generalize C.getD i 0 = c at *
      generalize L.length - (C.take i).sum = l at *
      generalize us.getD i undef = ui at *
      go_upto_region 5 with fail
      go_region_law fail
      all_goals
        have hh2 := heap_set (u := Value.slice ro c rc) (i := i) (w := w2.drew) HH.out
        rw [List.setIfInBounds_toArray] at hh2
        have H2 := Lib.hid hh2
        have K2 := Lib.hid (kept_set_new HK.out.drew (i := i) (Nat.le_of_eq HG.out) (Value.slice ro c rc))
        clear y0 z0 r1 r2 x1 hh2
        go_wp2
        rw [HW.out]
        refine ⟨⟨rfl, rfl, by rw [HM.out]; rfl, rfl, by rw [HM.out]; rfl, i + 1, by rw [HM.out]; exact HI.out, rfl, V, us.set i (.slice ro c rc), rfl, S2.out, by rw [List.length_set, HM.out]; exact HUL.out, H2, fun j hj => ?_, K2.out⟩, nearer HI.out rfl⟩
        by_cases hji : j = i
        · subst hji
          exact ⟨_, List.getElem?_set_self (by rw [HUL.out]; exact HI.out), S1.out⟩
        · rw [List.getElem?_set_ne (Ne.symm hji)]
          exact HUS.out j (by omega)
    · have hie : i = m := by omega
      subst hie
      have hdd : decide (i < i) = false := decide_eq_false hlt
      clear hlt hi
      go_wp2
      go_ret
      refine ⟨_, rfl, chs_heap HH.out HUL.out (by rw [pcz_length, HM.out]) (by have := HCL.out; have := HM.out; simp only [maxLen]; omega) (fun j hj => ?_), HK.out⟩
      obtain ⟨u, h1, h2⟩ := HUS.out j hj
      exact ⟨u, h1, h2.nix HK.out⟩

end Go.Proofs.Ytliggpidkdiinaa
