/- Slices of integers: the reference's Ints; the library's Clone, Grow and Concat. Differences of numbers, again and again. No program. Package fixed: differences. -/
import Derived.Test.YtlbnjclchmnomaaPk10
import Derived.Lib.AppendZerosOnto
import Derived.Deep.RegionLaw
import Derived.Deep.OwnRows
import Derived.Test.YtlbnjclchmnomaaPk1
import Derived.Laws.OwnMore

namespace Go.Proofs.Ytlbnjclchmnomaa
open Go.RowKit Bx

def ivs (zs : List Int) : List Value := zs.map (Value.int .i64)

theorem ivs_length (zs : List Int) : (ivs zs).length = zs.length := by simp [ivs]

theorem owns_weak {w : World} {base base' : Nat} {e : TypeId} {v : Value} {n : Nat} {xs : List Value} (h : w.ownsRow base e 1 v n xs) (hb : base' ≤ base) : w.ownsRow base' e 1 v n xs := by
  refine ⟨h.1, ?_⟩
  rcases h.2 with h2 | ⟨g, cap, cur, e1, e2, e3⟩
  · exact .inl h2
  · exact .inr ⟨g, cap, cur, e1, Nat.le_trans hb e2, e3⟩

theorem w64_in (n : Int) (h : -9223372036854775808 ≤ n ∧ n ≤ 9223372036854775807) : wrap64 n = n := by unfold wrap64; omega

theorem info_int : (Try.prog.info? 3).map (fun i => (i.zero, i.size, i.bytes)) = some (some (.int .i64 0), 1, 8) := by kernel_rfl

theorem info_ints : (Try.prog.info? 22).map (fun i => (i.zero, i.size, i.bytes)) = some (some (.slice none 0 0), 1, 24) := by kernel_rfl

theorem sl_alloc (w : World) (xs : List Value) (e : TypeId) (n : Nat) (hn : xs.length = n) (hm : n ≤ maxLen) : Sl (w.alloc (.cells xs.toArray e)) (.slice (some ⟨w.heap.size, 0, none⟩) n n) xs := by
  subst hn
  refine ⟨_, xs.length, rfl, Nat.le_refl _, hm, fun h => by simp at h, fun _ => ⟨w.heap.size, 0, rfl, by simp, fun j u hu => ?_⟩⟩
  rw [Nat.zero_add, World.cell?_alloc_mark, List.getElem?_toArray]
  exact hu

theorem w64_i (n : Int) (h : -9223372036854775808 ≤ n ∧ n ≤ 9223372036854775807) : wrap64 n = n := by unfold wrap64; omega

def IntsInv (va vb : Value) (A B : List Int) (w : World) (a : Act) (w' : World) : Prop :=
  a.defers = [] ∧ a.tmps.size = 26 ∧ a.tmps[0]? = some va ∧ a.tmps[1]? = some vb ∧ ∃ i, i ≤ A.length ∧ a.tmps[5]? = some (.int .i64 ((i : Nat) : Int)) ∧ A.take i = B.take i ∧ ∃ n, w' = w.drewN n

theorem take_stepI {A B : List Int} {i : Nat} (h : A.take i = B.take i) (h1 : i < A.length) (h2 : i < B.length) (hx : A.getD i 0 = B.getD i 0) : A.take (i + 1) = B.take (i + 1) := by
  rw [List.take_succ_eq_append_getElem h1, List.take_succ_eq_append_getElem h2, h]
  simp only [List.getD_eq_getElem?_getD, List.getElem?_eq_getElem h1, List.getElem?_eq_getElem h2, Option.getD_some] at hx
  rw [hx]

set_option maxHeartbeats 400000 in
theorem ints_any (va vb : Value) (A B : List Int) (w : World) (ha : Sl w va (A.map (Value.int .i64))) (hb : Sl w vb (B.map (Value.int .i64))) (hl : A.length < 1099511627776) :
    Calls Try.prog 15 #[va, vb] w fun e w' => e = .returned (.bool (decide (A = B))) ∧ ∃ n, w' = w.drewN n := by
  obtain ⟨ao, ca, rfl, _, _, hca'⟩ := ha.ints
  obtain ⟨bo, cb, rfl, _, _, hcb'⟩ := hb.ints
  by_cases hlen : A.length = B.length
  · have HCA := Lib.hid (show 0 < A.length → ∃ b off, ao = some ⟨b, off, none⟩ ∧ ∀ j, j < A.length → w.cell? ⟨b, off + j, none⟩ = some (.int .i64 (A.getD j 0)) from fun h0 => by obtain ⟨b, off, e, _, h⟩ := hca' h0; exact ⟨b, off, e, h⟩)
    have HCB := Lib.hid (show 0 < B.length → ∃ b off, bo = some ⟨b, off, none⟩ ∧ ∀ j, j < B.length → w.cell? ⟨b, off + j, none⟩ = some (.int .i64 (B.getD j 0)) from fun h0 => by obtain ⟨b, off, e, _, h⟩ := hcb' h0; exact ⟨b, off, e, h⟩)
    have ht : ((A.length : Int) != (B.length : Int)) = false := by simp [hlen]
    have HLEN := Lib.hid hlen
    clear ha hb hca' hcb' hlen
    go_enter Try.func15, Try.ntmps15
    go_wp2
    refine wp_loop (IntsInv (.slice ao A.length ca) (.slice bo B.length cb) A B w) (fun a _ => A.length - (intOf (a.tmps.getD 5 undef)).toNat) ?_ ?_
    · exact ⟨rfl, rfl, rfl, rfl, 0, Nat.zero_le _, rfl, by simp, 0, rfl⟩
    · rintro ⟨tm, df⟩ w1 ⟨rfl, hs, h0, h1, i, hi, h5, htk, n1, rfl⟩
      simp only at hs h0 h1 h5
      obtain ⟨f, hf, hg⟩ := fr_open hs
      have e0 := hg _ _ h0
      have e1 := hg _ _ h1
      have e5 := hg _ _ h5
      simp only [List.range, List.range.loop, List.map] at hf
      rw [e0, e1, e5] at hf
      clear e0 e1 e5 hg hs h0 h1 h5
      subst hf
      have HTK := Lib.hid htk
      clear htk
      by_cases hlt : i < A.length
      · obtain ⟨b1, o1, rfl, hc1⟩ := HCA.out (by omega)
        obtain ⟨b2, o2, rfl, hc2⟩ := HCB.out (by have := HLEN.out; omega)
        have hd1 := hc1 i hlt
        have hd2 := hc2 i (by have := HLEN.out; omega)
        clear hc1 hc2
        have hi1 : (i : Int) < (A.length : Int) := by omega
        have hi2 : (i : Int) < (B.length : Int) := by have := HLEN.out; omega
        generalize hx : A.getD i 0 = x at *
        generalize hy : B.getD i 0 = y at *
        have HX := Lib.hid hx
        have HY := Lib.hid hy
        clear hx hy
        by_cases hxy : x = y
        · have hxb : (x != y) = false := by simp [hxy]
          have HXY := Lib.hid hxy
          clear hxy
          go_wp2
          go_quiet (fail)
          go_wp2
          refine ⟨⟨rfl, rfl, rfl, rfl, i + 1, hlt, rfl, ?_, _, rfl⟩, ?_⟩
          · exact take_stepI HTK.out hlt (by have := HLEN.out; omega) (by rw [HX.out, HY.out, HXY.out])
          · simp [intOf]; omega
        · have hxb : (x != y) = true := bne_iff_ne.2 hxy
          have HNE : ¬ A = B := fun e => hxy (by rw [← HX.out, ← HY.out, e])
          have e1 : decide (A = B) = false := by simp [HNE]
          clear hxy HNE
          go_wp2
          go_quiet (fail)
          go_wp2
          go_ret
          exact ⟨by rw [e1]; rfl, _, World.drewN_drewN _ _ _⟩
      · have e1 : A = B := by
          have h := HTK.out
          have := HLEN.out
          rwa [List.take_of_length_le (by omega), List.take_of_length_le (by omega)] at h
        have e2 : decide (A = B) = true := by simp [e1]
        clear e1
        go_wp2
        go_ret
        exact ⟨by rw [e2]; rfl, _, rfl⟩
  · have hne : ¬ A = B := fun e => hlen (by rw [e])
    have e1 : decide (A = B) = false := by simp [hne]
    rw [e1]
    have ht : ((A.length : Int) != (B.length : Int)) = true := bne_iff_ne.2 (by omega)
    clear ha hb e1 hne hca' hcb'
    go_enter Try.func15, Try.ntmps15
    go_wp2
    go_ret
    exact ⟨rfl, 0, rfl⟩

theorem ivs_one (zs : List Int) : ∀ u ∈ ivs zs, u.oneCell' = true := by
  intro u hu
  obtain ⟨_, _, rfl⟩ := List.mem_map.1 hu
  rfl

theorem src_ivs {w : World} {ao : Option Addr} {n cap : Nat} {zs : List Int} (h : Sl w (.slice ao n cap) (ivs zs)) : SrcIs w 1 ao n cap (ivs zs) ∧ n = zs.length := by
  obtain ⟨ao', cap', e, hs⟩ := src_of_sl h (ivs_one zs)
  simp only [Value.slice.injEq, ivs_length] at e
  obtain ⟨rfl, rfl, rfl⟩ := e
  rw [ivs_length] at hs
  exact ⟨hs, rfl⟩

theorem eq_nil (w : World) (a : Option Addr) (n c : Nat) : (binOp .eql 22 (.slice a n c) (.slice none 0 0)).run Try.prog w = .ok (.bool a.isNone) w := by
  simp only [binOp]
  simp [Op.equal, Op.maxDepth, Lib.run_equalIn_slice_nil w 9999 22 3 a n c 0 0 Try.underlying22]

theorem run_grow_zeros (n : Nat) (h0 : 0 < n) (hn : n < 1099511627776) (w : World) (ty : TypeId) : (Builtin.append_ #[22, 3] ty #[.slice none 0 0, .int .i64 (n : Int)]).run Try.prog w =
    .ok (.slice (some ⟨w.heap.size, 0, none⟩) n (grownCap w n 0 3)) (w.drew.alloc (.cells (Builtin.zeroCells #[.int .i64 0] n ++ Builtin.zeroCells #[.int .i64 0] (grownCap w n 0 3 - n)) 3)) := by
  obtain ⟨i0, hi0, hz0, hzs, hzb⟩ := info_parts info_int
  have hold : (Builtin.firstCells i0.size 0 (.slice none 0 0)).run Try.prog w.drew = .ok ([] : List Value).toArray w.drew := run_firstCells_none w.drew i0.size 0 0 0
  have h := Lib.run_append_grow_zeros (P := Try.prog) w 22 3 ty 3 i0 (.int .i64 0) .i64 .i64 Try.underlying22 Try.underlying3 hi0 hz0 none 0 0 [] hold n h0 (by omega) (by omega) (by omega) (by rw [hzb]; omega) (growslice_fits (by omega) (by rw [hzb]; omega))
  simp only [Nat.zero_add] at h
  rw [h]
  have e : ([] : List Value).toArray ++ Builtin.zeroCells (Value.int IntKind.i64 0).cells n = Builtin.zeroCells #[.int .i64 0] n := by simp [Value.cells]
  rw [e]
  rfl

theorem wpList_zeros {ops : Array Oper} {rest : List Oper} {o : Oper} {a : Act} {w : World} {Q : Exit → Act → World → Prop} (hgd : o.guard = none) (s x : Operand)
    (ho : o.op = .call { callee := .builtin .append, args := #[s, x], argTypes := #[22, 3] }) (n : Nat) (h0 : 0 < n) (hn : n < 1099511627776) (hs : a.eval s = .slice none 0 0) (hx : a.eval x = .int .i64 (n : Int))
    (h : wpList Try.prog ops Q rest (a.put o.dst (.slice (some ⟨w.heap.size, 0, none⟩) n (grownCap w n 0 3))) (w.drew.alloc (.cells (Builtin.zeroCells #[.int .i64 0] n ++ Builtin.zeroCells #[.int .i64 0] (grownCap w n 0 3 - n)) 3))) : wpList Try.prog ops Q (o :: rest) a w := by
  refine wpList_plain hgd fun K hK => ?_
  have hr := run_grow_zeros n h0 hn w o.type
  unfold Oper.wp execOp
  simp only [ho, resolve, invoke, builtin, Sem.run_bind, Sem.run_pure, Result.andThen_ok, List.map_toArray, List.map_cons, List.map_nil, hs, hx, hr]
  exact hK _ _ h

def CatA (v : Value) (L : List (List Int)) (w : World) (a : Act) (w' : World) : Prop :=
  a.defers = [] ∧ a.tmps.size = 36 ∧ a.tmps[0]? = some v ∧ a.tmps[9]? = some v ∧ a.tmps[10]? = some (.int .i64 (L.length : Int)) ∧ ∃ i : Nat, i ≤ L.length ∧ a.tmps[11]? = some (.int .i64 (i : Int)) ∧ a.tmps[3]? = some (.int .i64 ((L.take i).flatten.length : Int)) ∧ w' = w

def CatB (v : Value) (L : List (List Int)) (w : World) (a : Act) (w' : World) : Prop :=
  a.defers = [] ∧ a.tmps.size = 36 ∧ a.tmps[25]? = some v ∧ a.tmps[26]? = some (.int .i64 (L.length : Int)) ∧ ∃ i : Nat, i ≤ L.length ∧ a.tmps[27]? = some (.int .i64 (i : Int)) ∧ Kept Nix w w' ∧ ∃ u, a.tmps[6]? = some u ∧ w'.ownsRow w.heap.size 3 1 u (L.take i).flatten.length (ivs (L.take i).flatten)

theorem take_flat (L : List (List Int)) (i : Nat) (h : i < L.length) : (L.take (i + 1)).flatten = (L.take i).flatten ++ L.getD i [] := by
  rw [List.take_succ_eq_append_getElem h, List.flatten_append]
  simp [List.getD, h]

theorem take_flat_le (L : List (List Int)) (i : Nat) : (L.take i).flatten.length ≤ L.flatten.length := by
  have h : L.flatten = (L.take i).flatten ++ (L.drop i).flatten := by rw [← List.flatten_append, List.take_append_drop]
  rw [h, List.length_append]
  omega

theorem made_int (n : Nat) : madeCells #[Value.int .i64 0] n = (ivs (List.replicate n 0)).toArray := by
  apply Array.ext
  · simp [size_madeCells, ivs]
  · intro i h1 h2
    simp [madeCells, ivs, Nat.mod_one]

theorem make_int (n : Nat) (h : n ≤ 1099511627776) (w : World) : (Instr.makeSlice 22 (.int .i64 (n : Int)) (.int .i64 (n : Int))).run Try.prog w = .ok (.slice (some ⟨w.heap.size, 0, none⟩) n n) (w.alloc (.cells (ivs (List.replicate n 0)).toArray 3)) := by
  rw [← made_int]
  exact run_make_row' (P := Try.prog) 22 3 (.int .i64 0) 8 Try.underlying22 info_int rfl .i64 .i64 n (by omega) (by omega) w

end Go.Proofs.Ytlbnjclchmnomaa

namespace Go.Proofs.Ytlbnjclchmnomaa

/-- How much each number is above the one ahead. -/
def dl : List Int → List Int
  | [] => []
  | [_] => []
  | a :: b :: t => (b - a) :: dl (b :: t)

theorem dl_length : ∀ x : List Int, (dl x).length = x.length - 1
  | [] => rfl
  | [_] => rfl
  | a :: b :: t => by
    have := dl_length (b :: t)
    simp only [dl, List.length_cons] at this ⊢
    omega

theorem dl_get : ∀ (x : List Int) (i : Nat), i + 1 < x.length → (dl x).getD i 0 = x.getD (i + 1) 0 - x.getD i 0
  | [], i, h => by simp at h
  | [_], i, h => by simp at h
  | a :: b :: t, 0, _ => by simp [dl]
  | a :: b :: t, i + 1, h => by
    have := dl_get (b :: t) i (by simpa using h)
    simpa [dl] using this

/-- So many times. -/
def dn : Nat → List Int → List Int
  | 0, x => x
  | k + 1, x => dl (dn k x)

theorem dn_length : ∀ (k : Nat) (x : List Int), (dn k x).length = x.length - k
  | 0, _ => rfl
  | k + 1, x => by rw [dn, dl_length, dn_length k x]; omega

theorem dn_get (k : Nat) (x : List Int) (i : Nat) (h : i + k + 1 < x.length) : (dn (k + 1) x).getD i 0 = (dn k x).getD (i + 1) 0 - (dn k x).getD i 0 :=
  dl_get _ i (by rw [dn_length]; omega)

/-- None is further from 0. -/
def Bd (m : Int) (x : List Int) : Prop := ∀ i, i < x.length → -m ≤ x.getD i 0 ∧ x.getD i 0 ≤ m

theorem bd_of_mem {m : Int} {x : List Int} (h : ∀ n ∈ x, -m ≤ n ∧ n ≤ m) : Bd m x := fun i hi => by
  have : x.getD i 0 = x[i] := by simp [List.getD, hi]
  rw [this]
  exact h _ (List.getElem_mem hi)

theorem Bd.mem {m : Int} {x : List Int} (h : Bd m x) : ∀ n ∈ x, -m ≤ n ∧ n ≤ m := fun n hn => by
  obtain ⟨i, hi, rfl⟩ := List.mem_iff_getElem.1 hn
  have := h i hi
  simpa [List.getD, hi] using this

theorem Bd.any {m : Int} {x : List Int} (h : Bd m x) (h0 : 0 ≤ m) (i : Nat) : -m ≤ x.getD i 0 ∧ x.getD i 0 ≤ m := by
  by_cases hi : i < x.length
  · exact h i hi
  · rw [show x.getD i 0 = 0 by simp [List.getD, List.getElem?_eq_none (show x.length ≤ i by omega)]]
    omega

theorem Bd.dl {m : Int} {x : List Int} (h : Bd m x) : Bd (2 * m) (dl x) := fun i hi => by
  rw [dl_length] at hi
  rw [dl_get x i (by omega)]
  have h1 := h i (by omega)
  have h2 := h (i + 1) (by omega)
  omega

theorem Bd.mono {m n : Int} {x : List Int} (h : Bd m x) (hmn : m ≤ n) : Bd n x := fun i hi => by
  have := h i hi
  omega

theorem Bd.dn {m : Int} {x : List Int} (h : Bd m x) (h0 : 0 ≤ m) : ∀ k, k ≤ 5 → Bd (32 * m) (dn k x)
  | 0, _ => h.mono (by omega)
  | 1, _ => h.dl.mono (by omega)
  | 2, _ => h.dl.dl.mono (by omega)
  | 3, _ => h.dl.dl.dl.mono (by omega)
  | 4, _ => h.dl.dl.dl.dl.mono (by omega)
  | 5, _ => h.dl.dl.dl.dl.dl.mono (by omega)
  | n + 6, h => by omega

theorem Bd.take {m : Int} {x : List Int} (h : Bd m x) (k : Nat) : Bd m (x.take k) := bd_of_mem fun n hn => h.mem n (List.mem_of_mem_take hn)

/-- The differences laid over the numbers, so many of them. -/
def ov (zs : List Int) (i : Nat) : List Int := (dl zs).take i ++ zs.drop i

theorem ov_length (zs : List Int) (i : Nat) (h : i + 1 ≤ zs.length) : (ov zs i).length = zs.length := by
  simp only [ov, List.length_append, List.length_take, List.length_drop, dl_length]
  omega

theorem ov_at (zs : List Int) (i j : Nat) (h : i + 1 ≤ zs.length) : (ov zs i).getD (i + j) 0 = zs.getD (i + j) 0 := by
  have hl : ((dl zs).take i).length = i := by simp only [List.length_take, dl_length]; omega
  simp only [ov, List.getD_eq_getElem?_getD]
  rw [List.getElem?_append_right (by omega), hl, List.getElem?_drop, show i + (i + j - i) = i + j by omega]

theorem ov_set (zs : List Int) (i : Nat) (h : i + 1 < zs.length) : (ov zs i).set i (zs.getD (i + 1) 0 - zs.getD i 0) = ov zs (i + 1) := by
  have hl : ((dl zs).take i).length = i := by simp only [List.length_take, dl_length]; omega
  have hd := dl_get zs i h
  have hi : i < (dl zs).length := by rw [dl_length]; omega
  simp only [ov]
  rw [List.set_append_right _ _ (by omega), hl, Nat.sub_self, List.take_succ_eq_append_getElem hi, List.append_assoc, ← hd]
  congr 1
  rw [List.drop_eq_getElem_cons (show i < zs.length by omega)]
  simp only [List.getD, List.getElem?_eq_getElem hi, Option.getD_some, List.set_cons_zero, List.singleton_append]

theorem ov_last (zs : List Int) : (ov zs (zs.length - 1)).take (zs.length - 1) = dl zs := by
  have hl : (dl zs).length = zs.length - 1 := dl_length zs
  simp only [ov]
  rw [List.take_append_of_le_length (by simp; omega), List.take_take, List.take_of_length_le (by omega)]

theorem ov_zero (zs : List Int) : ov zs 0 = zs := by simp [ov]

/-- Numbers that are sums: the j-th one of them stands from p on; those ahead are left out. -/
theorem getD_ext {x y : List Int} (hl : x.length = y.length) (h : ∀ i, i < x.length → x.getD i 0 = y.getD i 0) : x = y := by
  apply List.ext_getElem hl
  intro i h1 h2
  have := h i h1
  simpa [List.getD, h1, h2] using this

/-- What is left of a beginning is the beginning of what is left. -/
theorem dn_take (k n : Nat) (x : List Int) : dn k (x.take n) = (dn k x).take (n - k) := by
  induction k with
  | zero => simp [dn]
  | succ k ih =>
    apply getD_ext
    · simp only [dn_length, List.length_take]; omega
    · intro i hi
      simp only [dn_length, List.length_take] at hi
      rw [dn_get k _ i (by simp only [List.length_take]; omega), ih]
      have e : ∀ (l : List Int) (m j : Nat), j < m → (l.take m).getD j 0 = l.getD j 0 := fun l m j h => by simp [List.getD, h]
      rw [e _ _ _ (by omega), e _ _ _ (by omega), e _ _ _ (by omega), dn_get k x i (by omega)]

/-- The factors of an order. -/
def fac : Nat → List Int
  | 1 => [1]
  | 2 => [2, -1]
  | 3 => [3, -3, 1]
  | 4 => [4, -6, 4, -1]
  | _ => []

/-- The sum of the numbers ahead of a place times their factors, of so many of them. -/
def ts (F x : List Int) (i : Nat) : Nat → Int
  | 0 => 0
  | j + 1 => ts F x i j + F.getD j 0 * x.getD (i - 1 - j) 0

theorem fac_length (k : Nat) (h : k ≤ 4) : (fac k).length = k := by
  match k, h with
  | 0, _ => rfl
  | 1, _ => rfl
  | 2, _ => rfl
  | 3, _ => rfl
  | 4, _ => rfl
  | n + 5, h => omega

theorem fac_bd (k : Nat) : Bd 6 (fac k) := by
  apply bd_of_mem
  intro n hn
  unfold fac at hn
  split at hn <;> simp at hn <;> omega

theorem mul_bd (f y m : Int) (h1 : -6 ≤ f) (h2 : f ≤ 6) (h3 : -m ≤ y) (h4 : y ≤ m) : -(6 * m) ≤ f * y ∧ f * y ≤ 6 * m := by
  have hm : 0 ≤ m := by omega
  rcases (by omega : f = -6 ∨ f = -5 ∨ f = -4 ∨ f = -3 ∨ f = -2 ∨ f = -1 ∨ f = 0 ∨ f = 1 ∨ f = 2 ∨ f = 3 ∨ f = 4 ∨ f = 5 ∨ f = 6) with h | h | h | h | h | h | h | h | h | h | h | h | h <;> subst h <;> omega

theorem ts_bd {F x : List Int} {m : Int} (hF : Bd 6 F) (hx : Bd m x) (h0 : 0 ≤ m) (i : Nat) : ∀ j, j ≤ 4 → -(24 * m) ≤ ts F x i j ∧ ts F x i j ≤ 24 * m := by
  have key : ∀ j : Nat, -((j : Int) * (6 * m)) ≤ ts F x i j ∧ ts F x i j ≤ (j : Int) * (6 * m) := by
    intro j
    induction j with
    | zero => simp [ts]
    | succ j ih =>
      have h1 := hF.any (by omega) j
      have h2 := hx.any h0 (i - 1 - j)
      have h3 := mul_bd _ _ m h1.1 h1.2 h2.1 h2.2
      rw [ts, show ((j + 1 : Nat) : Int) * (6 * m) = (j : Int) * (6 * m) + 6 * m by rw [show ((j + 1 : Nat) : Int) = (j : Int) + 1 by simp, Int.add_mul, Int.one_mul]]
      generalize (j : Int) * (6 * m) = q at *
      generalize F.getD j 0 * x.getD (i - 1 - j) 0 = p at *
      omega
  intro j hj
  have h1 := key j
  have h2 : (j : Int) * (6 * m) ≤ 4 * (6 * m) := Int.mul_le_mul_of_nonneg_right (by omega) (by omega)
  omega

/-- What a number is above what it is foretold is what the differences leave. -/
theorem told_left (k : Nat) (hk : k ≤ 4) (x : List Int) (i : Nat) (h1 : k ≤ i) (h2 : i < x.length) : x.getD i 0 - ts (fac k) x i k = (dn k x).getD (i - k) 0 := by
  match k, hk, h1 with
  | 0, _, _ => simp [ts, dn]
  | 1, _, h1 =>
    obtain ⟨j, rfl⟩ : ∃ j, i = j + 1 := ⟨i - 1, by omega⟩
    rw [show j + 1 - 1 = j by omega, dn_get 0 x j (by omega)]
    simp [ts, fac, dn]
  | 2, _, h1 =>
    obtain ⟨j, rfl⟩ : ∃ j, i = j + 2 := ⟨i - 2, by omega⟩
    rw [show j + 2 - 2 = j by omega, dn_get 1 x j (by omega), dn_get 0 x j (by omega), dn_get 0 x (j + 1) (by omega)]
    simp [ts, fac, dn]
    rw [show j + 1 + 1 = j + 2 by omega]
    omega
  | 3, _, h1 =>
    obtain ⟨j, rfl⟩ : ∃ j, i = j + 3 := ⟨i - 3, by omega⟩
    rw [show j + 3 - 3 = j by omega, dn_get 2 x j (by omega), dn_get 1 x j (by omega), dn_get 1 x (j + 1) (by omega), dn_get 0 x j (by omega), dn_get 0 x (j + 1) (by omega), dn_get 0 x (j + 1 + 1) (by omega)]
    simp [ts, fac, dn]
    rw [show j + 1 + 1 + 1 = j + 3 by omega, show j + 1 + 1 = j + 2 by omega]
    omega
  | 4, _, h1 =>
    obtain ⟨j, rfl⟩ : ∃ j, i = j + 4 := ⟨i - 4, by omega⟩
    rw [show j + 4 - 4 = j by omega, dn_get 3 x j (by omega), dn_get 2 x j (by omega), dn_get 2 x (j + 1) (by omega), dn_get 1 x j (by omega), dn_get 1 x (j + 1) (by omega), dn_get 1 x (j + 1 + 1) (by omega), dn_get 0 x j (by omega), dn_get 0 x (j + 1) (by omega), dn_get 0 x (j + 1 + 1) (by omega), dn_get 0 x (j + 1 + 1 + 1) (by omega)]
    simp [ts, fac, dn]
    rw [show j + 1 + 1 + 1 + 1 = j + 4 by omega, show j + 1 + 1 + 1 = j + 3 by omega, show j + 1 + 1 = j + 2 by omega]
    omega
  | n + 5, h, _ => omega

end Go.Proofs.Ytlbnjclchmnomaa

namespace Go.Proofs.Ytlbnjclchmnomaa
open Go.RowKit Bx

theorem ivs_get (zs : List Int) (i : Nat) (h : i < zs.length) : (ivs zs)[i]? = some (.int .i64 (zs.getD i 0)) := by simp [ivs, h]
theorem ivs_set (zs : List Int) (i : Nat) (z : Int) : (ivs zs).set i (.int .i64 z) = ivs (zs.set i z) := by simp [ivs, List.map_set]
theorem ivs_take (zs : List Int) (i : Nat) : (ivs zs).take i = ivs (zs.take i) := by simp [ivs, List.map_take]
theorem ivs_drop (zs : List Int) (i : Nat) : (ivs zs).drop i = ivs (zs.drop i) := by simp [ivs, List.map_drop]
theorem ivs_append (a b : List Int) : ivs (a ++ b) = ivs a ++ ivs b := by simp [ivs]

/-- A beginning of what is owned is owned. -/
theorem owns_less {w : World} {base g n cap m : Nat} {e : TypeId} {xs : List Value} (h : w.ownsRow base e 1 (.slice (some ⟨g, 0, none⟩) n cap) n xs) (hm : m ≤ n) : w.ownsRow base e 1 (.slice (some ⟨g, 0, none⟩) m cap) m (xs.take m) := by
  have hl := h.1
  rcases h.2 with ⟨h', _⟩ | ⟨g', cap', cur, h', hb, hg, hnc, hcm, hcs, htake⟩
  · simp at h'
  · simp only [Value.slice.injEq, Option.some.injEq, Addr.mk.injEq, and_true, true_and] at h'
    obtain ⟨rfl, rfl⟩ := h'
    refine ⟨by simp; omega, .inr ⟨g, cap, cur, rfl, hb, hg, by omega, hcm, hcs, ?_⟩⟩
    rw [← htake, List.take_take, Nat.mul_one, Nat.mul_one, Nat.min_eq_left hm]

theorem owns_cap {w : World} {base n cap : Nat} {ao : Option Addr} {e : TypeId} {size : Nat} {xs : List Value} (h : w.ownsRow base e size (.slice ao n cap) n xs) : n ≤ cap ∧ cap ≤ maxLen := by
  obtain ⟨ao', cap', e, hc1, hc2⟩ := owns_shape h
  simp only [Value.slice.injEq] at e
  rw [e.2.2]
  exact ⟨hc1, hc2⟩

theorem nearer {m i i' : Nat} (h : i < m) (e : i + 1 = i') : m - (intOf (.int .i64 (i' : Int))).toNat < m - (intOf (.int .i64 (i : Int))).toNat := by
  simp only [intOf, Int.toNat_natCast]
  omega

def DiffInv (base g n cap m : Nat) (zs : List Int) (w : World) (a : Act) (w' : World) : Prop :=
  a.defers = [] ∧ a.tmps.size = 29 ∧ a.tmps[0]? = some (.slice (some ⟨g, 0, none⟩) n cap) ∧ a.tmps[3]? = some (.int .i64 (m : Int)) ∧ a.tmps[8]? = some (.int .i64 (m : Int)) ∧
  ∃ i : Nat, i ≤ m ∧ a.tmps[9]? = some (.int .i64 (i : Int)) ∧ w'.ownsRow base 3 1 (.slice (some ⟨g, 0, none⟩) n cap) n (ivs (ov zs i)) ∧ Kept (One g) w w'

theorem diff_nums (n cap m i : Nat) (x y : Int) (hn : n = m + 1) (h : n ≤ cap) (hm : cap ≤ maxLen) (hi : i < m) (hx : -4611686018427387903 ≤ x ∧ x ≤ 4611686018427387903) (hy : -4611686018427387903 ≤ y ∧ y ≤ 4611686018427387903) :
    IntKind.i64.wrap ((i : Int) + 1) = ((i + 1 : Nat) : Int) ∧ wrap64 ((i : Int) + 1) = ((i + 1 : Nat) : Int) ∧ IntKind.i64.wrap (y - x) = y - x ∧ wrap64 (y - x) = y - x ∧ decide ((i : Int) < (m : Int)) = true ∧ (i : Int) < (n : Int) ∧ ((i + 1 : Nat) : Int) < (n : Int) ∧ i < n ∧ i + 1 < n := by
  simp only [maxLen] at hm
  have e1 : wrap64 ((i : Int) + 1) = ((i + 1 : Nat) : Int) := by unfold wrap64; omega
  have e2 : wrap64 (y - x) = y - x := by unfold wrap64; omega
  refine ⟨?_, e1, ?_, e2, ?_, ?_, ?_, ?_, ?_⟩
  · rw [IntWalk.i64_in _ (by omega)]; simp
  · exact IntWalk.i64_in _ (by omega)
  · exact decide_eq_true (by omega)
  all_goals omega

end Go.Proofs.Ytlbnjclchmnomaa
