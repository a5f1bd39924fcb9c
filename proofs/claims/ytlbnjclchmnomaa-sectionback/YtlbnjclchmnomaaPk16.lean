/- Contracts of the reference's functions of layer 2: K, Fold, Near, High, Size. Two parts compared; the reference's Near. The reference of layer 13: Bits, Width, Each. The reference of layer 13: Ways. The reference of layer 13: Best. Slices of slices of integers of the call's own. -/
import Derived.Test.YtlbnjclchmnomaaPk3
import Derived.Test.YtlbnjclchmnomaaPk1
import Derived.Test.YtlbnjclchmnomaaPk15
import Derived.Laws.StructEq
import Derived.Deep.RegionHeld3
import Derived.Test.YtlbnjclchmnomaaPk10
import Derived.Test.YtlbnjclchmnomaaPk11

namespace Go.Proofs.Ytlbnjclchmnomaa
open Go.RowKit Bx

set_option maxHeartbeats 400000 in
theorem refK_any (n : Int) (w : World) : Calls Try.prog 42 #[.int .i64 n] w fun e w' => e = .returned (.int .i64 (kk n : Nat)) ∧ w = w' := by
  have hw : (kk n : Int) = max 0 (min n 30) := by unfold kk; omega
  have HW := Lib.hid hw
  clear hw
  go_enter Try.func42, Try.ntmps42
  go_wp2
  all_goals
    go_ret
    exact ⟨ret_int (by rw [HW.out]; omega), rfl⟩

set_option maxHeartbeats 400000 in
theorem refFold_any (n : Int) (w : World) (h0 : -9223372036854775808 ≤ n) (h1 : n ≤ 9223372036854775807) : Calls Try.prog 41 #[.int .i64 n] w fun e w' => e = .returned (.int .u64 (fd n : Nat)) ∧ w = w' := by
  have hw : (fd n : Int) = if 0 ≤ n then 2 * n else -(2 * n) - 1 := by unfold fd; split <;> omega
  have HW := Lib.hid hw
  clear hw
  by_cases hn : 0 ≤ n
  · have w1 : IntKind.u64.wrap n = n := by rw [IntKind.wrap_u64]; omega
    go_enter Try.func41, Try.ntmps41
    go_wp2
    go_ret
    refine ⟨ret_int ?_, rfl⟩
    rw [HW.out, if_pos hn]
  · go_enter Try.func41, Try.ntmps41
    go_wp2
    go_ret
    refine ⟨ret_int ?_, rfl⟩
    rw [HW.out, if_neg (by omega)]
    try simp only [IntKind.wrap_u64]
    omega

def HighInv (w : World) (n k : Int) (a : Act) (w' : World) : Prop :=
  w' = w ∧ a.defers = [] ∧ a.tmps.size = 18 ∧ a.tmps[1]? = some (.int .i64 k) ∧ ∃ i, i ≤ kk k ∧ a.tmps[5]? = some (.int .u64 ((fd n / 2 ^ i : Nat) : Int)) ∧ a.tmps[6]? = some (.int .i64 ((i : Nat) : Int))

set_option maxHeartbeats 400000 in
theorem refHigh_any (n k : Int) (w : World) (h0 : -9223372036854775808 ≤ n) (h1 : n ≤ 9223372036854775807) : Calls Try.prog 22 #[.int .i64 n, .int .i64 k] w fun e w' => e = .returned (.int .u64 ((fd n / 2 ^ kk k : Nat) : Int)) ∧ w = w' := by
  have HF := Lib.hid (refFold_any n w h0 h1)
  have HK := Lib.hid (refK_any k)
  have hkl := kk_le k
  have hfl := fd_lt h0 h1
  go_enter Try.func22, Try.ntmps22
  go_wp2_with (go_at_call 41; refine HF.out.mono ?_; rintro e w' ⟨rfl, rfl⟩)
  refine wp_loop (HighInv w n k) (fun a _ => kk k - (intOf (a.tmps.getD 6 undef)).toNat) ?_ ?_
  · exact ⟨rfl, rfl, rfl, rfl, 0, Nat.zero_le _, by simp, rfl⟩
  · rintro ⟨tm, df⟩ w1 ⟨rfl, rfl, hs, h1, i, hi, h5, h6⟩
    simp only at hs h1 h5 h6
    obtain ⟨f, hf, hg⟩ := fr_open hs
    have e1 := hg _ _ h1
    have e5 := hg _ _ h5
    have e6 := hg _ _ h6
    simp only [List.range, List.range.loop, List.map] at hf
    rw [e1, e5, e6] at hf
    clear e1 e5 e6 hg hs h1 h5 h6 HF
    subst hf
    have hx : fd n / 2 ^ i ≤ fd n := Nat.div_le_self _ _
    have hnx : fd n / 2 ^ (i + 1) = fd n / 2 ^ i / 2 := by rw [Nat.pow_succ, Nat.div_div_eq_div_mul]
    have HNX := Lib.hid hnx
    by_cases hlt : i < kk k
    · generalize fd n / 2 ^ i = x at *
      clear hnx
      go_wp2_with (go_at_call 42; refine (HK.out _).mono ?_; rintro e w' ⟨rfl, rfl⟩)
      refine ⟨⟨rfl, rfl, rfl, rfl, i + 1, by omega, ?_, rfl⟩, ?_⟩
      · rw [HNX.out]; rfl
      · simp [intOf]; omega
    · obtain rfl : i = kk k := by omega
      clear hnx HNX hlt hi
      go_wp2_with (go_at_call 42; refine (HK.out _).mono ?_; rintro e w' ⟨rfl, rfl⟩)
      go_ret
      exact ⟨rfl, rfl⟩

end Go.Proofs.Ytlbnjclchmnomaa

namespace Go.Proofs.Ytlbnjclchmnomaa
open Go.RowKit Bx

theorem eq_part (a b : Int) (r s : Bool) (w : World) : (Op.equalIn 10000 50 (.agg #[.int .i64 a, .bool r]) (.agg #[.int .i64 b, .bool s])).run Try.prog w = .ok (a == b && r == s) w := by
  rw [show (10000 : Nat) = 9999 + 1 from rfl]
  go_simp
  by_cases h1 : a = b <;> by_cases h2 : r = s <;> simp [h1, h2]

def NrsInv (v : Value) (L : List Int) (w : World) (a : Act) (w' : World) : Prop :=
  a.defers = [] ∧ a.tmps.size = 18 ∧ a.tmps[0]? = some v ∧ ∃ i : Nat, i ≤ L.length ∧ a.tmps[3]? = some (.int .i64 (i : Int)) ∧ nrs (L.take i) = true ∧ w' = w

end Go.Proofs.Ytlbnjclchmnomaa

namespace Go.Proofs.Ytlbnjclchmnomaa
open Go.RowKit Bx

def RCBInv (v : Value) (L : List Int) (k : Int) (w : World) (a : Act) (w' : World) : Prop :=
  a.defers = [] ∧ a.tmps.size = 27 ∧ a.tmps[0]? = some v ∧ a.tmps[1]? = some (.int .i64 k) ∧ ∃ i : Nat, i ≤ L.length ∧ a.tmps[7]? = some (.int .i64 (i : Int)) ∧ a.tmps[6]? = some (.int .i64 (sN (L.take i) (kk k) : Int)) ∧ w' = w

def RCWInv (v : Value) (W : Nat) (w : World) (a : Act) (w' : World) : Prop :=
  a.defers = [] ∧ a.tmps.size = 43 ∧ a.tmps[0]? = some v ∧ ∃ j : Nat, j ≤ W ∧ a.tmps[4]? = some (.int .i64 (j : Int)) ∧ w' = w

def RCWIn (v : Value) (L : List Int) (j : Nat) (w : World) (a : Act) (w' : World) : Prop :=
  a.defers = [] ∧ a.tmps.size = 43 ∧ a.tmps[0]? = some v ∧ a.tmps[4]? = some (.int .i64 (j : Int)) ∧ ∃ i : Nat, i ≤ L.length ∧ a.tmps[6]? = some (.int .i64 (i : Int)) ∧ a.tmps[5]? = some (.bool (decide (cw (L.take i) ≤ j))) ∧ w' = w

theorem inD_zero (j : Nat) (h1 : 0 < j) (h2 : j ≤ 62) : inD 0 (j : Int) = true := by
  rw [in_some 0 j (by omega) (by omega)]
  have hp : (0 : Int) < 2 ^ ((j : Int).toNat - 1) := Int.pow_pos (by decide)
  generalize (2 : Int) ^ ((j : Int).toNat - 1) = t at *
  simp only [Bool.and_eq_true, decide_eq_true_eq]
  omega

theorem rcw_in {x : Int} {j : Nat} (hj : j ≤ 62) : (inD x (j : Int) = true ∧ blen (fd x) ≤ j) ∨ (inD x (j : Int) = false ∧ 0 < j ∧ ¬ blen (fd x) ≤ j) ∨ (inD x (j : Int) = false ∧ j = 0 ∧ x ≠ 0 ∧ ¬ blen (fd x) ≤ j) ∨ (inD x (j : Int) = false ∧ j = 0 ∧ x = 0 ∧ blen (fd x) ≤ j) := by
  have h := fits_in x j hj
  cases hi : inD x (j : Int) with
  | true => exact .inl ⟨rfl, h.1 (.inl hi)⟩
  | false =>
    by_cases h0 : x = 0
    · by_cases hj0 : j = 0
      · exact .inr (.inr (.inr ⟨rfl, hj0, h0, h.1 (.inr h0)⟩))
      · subst h0
        rw [inD_zero j (by omega) hj] at hi
        cases hi
    · have hb : ¬ blen (fd x) ≤ j := fun hb => by
        rcases h.2 hb with h1 | h1
        · rw [hi] at h1; cases h1
        · exact h0 h1
      by_cases hj0 : j = 0
      · exact .inr (.inr (.inl ⟨rfl, hj0, h0, hb⟩))
      · exact .inr (.inl ⟨rfl, by omega, hb⟩)

theorem rcw_yes {L : List Int} {i j : Nat} (hi : i < L.length) (h : blen (fd (L.getD i 0)) ≤ j) : decide (cw (L.take (i + 1)) ≤ j) = decide (cw (L.take i) ≤ j) := by
  rw [cw_step hi]
  exact decide_eq_decide.2 (by omega)

theorem rcw_no {L : List Int} {i j : Nat} (hi : i < L.length) (h : ¬ blen (fd (L.getD i 0)) ≤ j) : decide (cw (L.take (i + 1)) ≤ j) = false := by
  rw [cw_step hi]
  exact decide_eq_false (by omega)

theorem raw_nums {l : Nat} {k : Int} (hl : l ≤ 1048576) (h0 : 0 ≤ k) (h1 : k ≤ 31) : wrap64 (k * (l : Int)) = k * (l : Int) ∧ wrap64 (5 + k * (l : Int)) = 5 + k * (l : Int) := by
  have e1 : k * (l : Int) ≤ 31 * (l : Int) := Int.mul_le_mul_of_nonneg_right h1 (by omega)
  have e2 : 0 ≤ k * (l : Int) := Int.mul_nonneg h0 (by omega)
  exact ⟨w64_in _ (by omega), w64_in _ (by omega)⟩

end Go.Proofs.Ytlbnjclchmnomaa

namespace Go.Proofs.Ytlbnjclchmnomaa
open Go.RowKit Bx

theorem info_part : (Try.prog.info? 50).map (fun i => (i.zero, i.size, i.bytes)) = some (some (.agg #[.int .i64 0, .bool false]), 2, 16) := by kernel_rfl

/-- The cells of parts. -/
def pcs : List (Int × Bool) → List Value
  | [] => []
  | p :: ps => .int .i64 p.1 :: .bool p.2 :: pcs ps

theorem pcs_append (A B : List (Int × Bool)) : pcs (A ++ B) = pcs A ++ pcs B := by
  induction A with
  | nil => rfl
  | cons p A ih => simp [pcs, ih]

theorem pcs_get (ps : List (Int × Bool)) (i : Nat) (hi : i < ps.length) : (pcs ps)[2 * i]? = some (.int .i64 (ps.getD i (0, false)).1) ∧ (pcs ps)[2 * i + 1]? = some (.bool (ps.getD i (0, false)).2) := by
  induction ps generalizing i with
  | nil => simp at hi
  | cons p ps ih =>
    cases i with
    | zero => simp [pcs]
    | succ i =>
      have := ih i (by simpa using hi)
      rw [show 2 * (i + 1) = 2 * i + 1 + 1 by omega]
      simpa [pcs] using this

/-- All ways, in order. -/
def kways (m : Nat) : List (Int × Bool) := (List.range m).map (fun k : Nat => ((k : Int), false))
def wys (L : List Int) (m : Nat) : List (Int × Bool) := kways (m + 1) ++ if cw L ≤ 31 then [((cw L : Int), true)] else []

theorem kways_succ (m : Nat) : kways (m + 1) = kways m ++ [((m : Int), false)] := by simp [kways, List.range_succ]
theorem kways_length (m : Nat) : (kways m).length = m := by simp [kways]

theorem src_part (w : World) (x y : Value) (t : TypeId) (h1 : x.oneCell' = true) (h2 : y.oneCell' = true) : SrcIs (w.alloc (.cells #[x, y] t)) 2 (some ⟨w.heap.size, 0, none⟩) 1 1 [x, y] := by
  refine ⟨rfl, fun h => by simp at h, ?_, by simp [h1, h2]⟩
  rintro ad h j u hu
  obtain rfl := Option.some.inj h
  match j, hu with
  | 0, hu =>
    simp at hu
    subst hu
    simp [Addr.add]
  | 1, hu =>
    simp at hu
    subst hu
    simp [Addr.add]

def WaysInv (v : Value) (most : Int) (w : World) (a : Act) (w' : World) : Prop :=
  a.defers = [] ∧ a.tmps.size = 38 ∧ a.tmps[0]? = some v ∧ a.tmps[1]? = some (.int .i64 most) ∧ ∃ k : Nat, 1 ≤ k ∧ k ≤ kk most + 1 ∧ a.tmps[6]? = some (.int .i64 (k : Int)) ∧ ∃ u, a.tmps[5]? = some u ∧ w'.ownsRow w.heap.size 50 2 u k (pcs (kways k)) ∧ Kept Nix w w'

theorem ways_test (most : Int) (k : Nat) (h1 : 1 ≤ k) (h2 : k ≤ kk most + 1) : (k ≤ kk most ∧ decide ((k : Int) ≤ most) = true ∧ decide ((k : Int) ≤ 30) = true) ∨ (k = kk most + 1 ∧ ((decide ((k : Int) ≤ most) = false) ∨ (decide ((k : Int) ≤ most) = true ∧ decide ((k : Int) ≤ 30) = false))) := by
  simp only [decide_eq_true_eq, decide_eq_false_iff_not]
  unfold kk at *
  omega

end Go.Proofs.Ytlbnjclchmnomaa

namespace Go.Proofs.Ytlbnjclchmnomaa
open Go.RowKit Bx

/-- How many bits a way has, by its number. -/
def wayN (L : List Int) (m j : Nat) : Nat := if j ≤ m then sN L j else 5 + L.length * cw L

/-- The first one of the ways up to i that have fewest bits. -/
def bst (L : List Int) (m : Nat) : Nat → Nat
  | 0 => 0
  | i + 1 => if wayN L m (i + 1) < wayN L m (bst L m i) then i + 1 else bst L m i

theorem bst_le (L : List Int) (m i : Nat) : bst L m i ≤ i := by
  induction i with
  | zero => simp [bst]
  | succ i ih => simp only [bst]; split <;> omega

theorem bst_low (L : List Int) (m : Nat) : ∀ i, i ≤ m → bst L m i = bk L i := by
  intro i
  induction i with
  | zero => intro _; rfl
  | succ i ih =>
    intro h
    have h1 := ih (by omega)
    have h2 := bk_le L i
    have e1 : wayN L m (i + 1) = sN L (i + 1) := by unfold wayN; rw [if_pos h]
    have e2 : wayN L m (bk L i) = sN L (bk L i) := by unfold wayN; rw [if_pos (by omega)]
    simp only [bst, bk, h1, e1, e2]

theorem wys_length (L : List Int) (m : Nat) : (wys L m).length = if cw L ≤ 31 then m + 2 else m + 1 := by
  unfold wys
  split <;> simp [kways_length]

theorem wys_low (L : List Int) (m j : Nat) (h : j ≤ m) : (wys L m).getD j (0, false) = ((j : Int), false) := by
  unfold wys kways
  simp only [List.getD_eq_getElem?_getD]
  rw [List.getElem?_append_left (by simp; omega)]
  simp [show j < m + 1 by omega]

theorem wys_last (L : List Int) (m : Nat) (h : cw L ≤ 31) : (wys L m).getD (m + 1) (0, false) = ((cw L : Int), true) := by
  unfold wys
  rw [if_pos h]
  simp only [List.getD_eq_getElem?_getD]
  rw [List.getElem?_append_right (by rw [kways_length]; exact Nat.le_refl _), kways_length]
  simp

theorem way_each {L : List Int} (hn : nrs L = true) {m j : Nat} (hm : m ≤ 30) (h : j < (wys L m).length) : ceach L ((wys L m).getD j (0, false)).1 ((wys L m).getD j (0, false)).2 = (wayN L m j : Int) := by
  rw [wys_length] at h
  by_cases hj : j ≤ m
  · rw [wys_low L m j hj]
    unfold ceach cbits wayN
    rw [if_neg (by simp), if_pos hn, if_pos hj, show kk ((j : Nat) : Int) = j by unfold kk; omega]
  · have hc : cw L ≤ 31 := by
      by_cases hc : cw L ≤ 31
      · exact hc
      · rw [if_neg hc] at h; omega
    rw [if_pos hc] at h
    obtain rfl : j = m + 1 := by omega
    rw [wys_last L m hc]
    unfold ceach wayN
    rw [if_pos rfl, if_pos ⟨hn, by omega, by omega⟩, if_neg (by omega)]
    simp [Int.mul_comm]

/-- The way that is found is the best one. -/
theorem bst_best {L : List Int} (hn : nrs L = true) (m : Nat) : (wys L m).getD (bst L m ((wys L m).length - 1)) (0, false) = (bestK L m, bestR L m) ∧ (wayN L m (bst L m ((wys L m).length - 1)) : Int) = bestN L m := by
  obtain ⟨h1, h2, h3, -⟩ := best_near hn m
  rw [h1, h2, h3, wys_length]
  have hb := bk_le L m
  by_cases hc : cw L ≤ 31
  · rw [if_pos hc, show m + 2 - 1 = m + 1 by omega, bst, bst_low L m m (Nat.le_refl _)]
    have e1 : wayN L m (m + 1) = 5 + L.length * cw L := by unfold wayN; rw [if_neg (by omega)]
    have e2 : wayN L m (bk L m) = sN L (bk L m) := by unfold wayN; rw [if_pos hb]
    rw [e1, e2]
    cases hr : cbR L m with
    | true =>
      have hr2 := hr
      simp only [cbR, Bool.and_eq_true, decide_eq_true_eq] at hr2
      rw [if_pos hr2.2, wys_last L m hc, e1]
      unfold cbK cbN
      rw [if_pos hr, if_pos hr]
      exact ⟨rfl, rfl⟩
    | false =>
      have hr2 := hr
      simp only [cbR, decide_eq_true hc, Bool.true_and, decide_eq_false_iff_not] at hr2
      rw [if_neg hr2, wys_low L m _ hb, e2]
      unfold cbK cbN
      rw [if_neg (by rw [hr]; simp), if_neg (by rw [hr]; simp)]
      exact ⟨rfl, rfl⟩
  · have hr : cbR L m = false := by unfold cbR; rw [decide_eq_false hc]; rfl
    rw [if_neg hc, show m + 1 - 1 = m by omega, bst_low L m m (Nat.le_refl _), wys_low L m _ hb, hr]
    have e2 : wayN L m (bk L m) = sN L (bk L m) := by unfold wayN; rw [if_pos hb]
    rw [e2]
    unfold cbK cbN
    rw [if_neg (by rw [hr]; simp), if_neg (by rw [hr]; simp)]
    exact ⟨rfl, rfl⟩

/-- The cells of a part out of a slice of them, in any world that kept it. -/
theorem part_in {w : World} {base g n cap : Nat} {ps : List (Int × Bool)} (h : w.ownsRow base 50 2 (.slice (some ⟨g, 0, none⟩) n cap) ps.length (pcs ps)) (i : Nat) (hi : i < ps.length) :
    ∀ w', Kept Nix w w' → w'.cell? ⟨g, i * 2, none⟩ = some (.int .i64 (ps.getD i (0, false)).1) ∧ w'.cell? ⟨g, i * 2 + 1, none⟩ = some (.bool (ps.getD i (0, false)).2) := by
  intro w' hk
  have h2 := hk.owns h (fun _ _ h => h)
  obtain ⟨p1, p2⟩ := pcs_get ps i hi
  have c1 := h2.cells (g := g) rfl _ _ p1
  have c2 := h2.cells (g := g) rfl _ _ p2
  rw [Addr.add_lit, Nat.zero_add] at c1 c2
  rw [Nat.mul_comm]
  exact ⟨c1, c2⟩

def RBInv (v : Value) (vu : Value) (L : List Int) (m : Nat) (g : Nat) (w1 : World) (a : Act) (w' : World) : Prop :=
  a.defers = [] ∧ a.tmps.size = 49 ∧ a.tmps[0]? = some v ∧ a.tmps[4]? = some (.pointer (some ⟨g, 0, none⟩)) ∧ a.tmps[8]? = some vu ∧ ∃ i : Nat, 1 ≤ i ∧ i ≤ (wys L m).length ∧ a.tmps[10]? = some (.int .i64 (i : Int)) ∧ a.tmps[9]? = some (.int .i64 (bst L m (i - 1) : Int)) ∧ Kept Nix w1 w'

end Go.Proofs.Ytlbnjclchmnomaa

namespace Go.Proofs.Ytlbnjclchmnomaa
open Go.RowKit Bx

theorem owns_type {w : World} {base : Nat} {e : TypeId} {v : Value} {n : Nat} {xs : List Value} (h : w.ownsRow base e 1 v n xs) {k : Nat} (hk : v.ownBlock = some k) : ∃ cur, w.heap[k]? = some (.cells cur e (0, 0)) := by
  rcases h.2 with ⟨rfl, _⟩ | ⟨g, cap, cur, rfl, _, hg, _⟩
  · cases hk
  · cases hk
    exact ⟨cur, hg⟩

def Rack (base : Nat) (w : World) (v : Value) (us : List Value) (L : List (List Int)) : Prop :=
  w.ownsRow base 22 1 v us.length us ∧ us.length = L.length ∧ ∀ i, i < L.length → ∃ u, us[i]? = some u ∧ w.ownsRow base 3 1 u (L.getD i []).length (ivs (L.getD i []))

theorem Rack.chs {base : Nat} {w : World} {v : Value} {us : List Value} {L : List (List Int)} (h : Rack base w v us L) : Chs w v L := by
  obtain ⟨h1, h2, h3⟩ := h
  exact ⟨us, sl_of_owns h1, h2, fun i hi => by obtain ⟨u, hu, ho⟩ := h3 i hi; exact ⟨u, hu, sl_of_owns ho⟩⟩

theorem rack_nil (base : Nat) (w : World) : Rack base w (.slice none 0 0) [] [] := ⟨World.ownsRow_nil _ _ _ _, rfl, fun i hi => by simp at hi⟩

/-- What is no part of it may turn. -/
theorem Rack.other {base : Nat} {w w' : World} {v : Value} {us : List Value} {L : List (List Int)} (h : Rack base w v us L) {S : Nat → Prop} (hk : Kept S w w') (hS : ∀ k cur t, S k → w.heap[k]? = some (.cells cur t (0, 0)) → t ≠ 22 ∧ t ≠ 3) : Rack base w' v us L := by
  obtain ⟨h1, h2, h3⟩ := h
  refine ⟨hk.owns h1 (fun k hb hs => ?_), h2, fun i hi => ?_⟩
  · obtain ⟨cur, hg⟩ := owns_type h1 hb
    exact (hS k _ _ hs hg).1 rfl
  · obtain ⟨u, hu, ho⟩ := h3 i hi
    refine ⟨u, hu, hk.owns ho (fun k hb hs => ?_)⟩
    obtain ⟨cur, hg⟩ := owns_type ho hb
    exact (hS k _ _ hs hg).2 rfl

theorem Rack.kept {base : Nat} {w w' : World} {v : Value} {us : List Value} {L : List (List Int)} (h : Rack base w v us L) (hk : Kept Nix w w') : Rack base w' v us L := h.other hk (fun _ _ _ h _ => absurd h id)

theorem Rack.push {base : Nat} {w w2 w6 : World} {v v6 u : Value} {us : List Value} {L : List (List Int)} {zs : List Int} (h : Rack base w v us L) (k2 : Kept Nix w w2) (hu : w2.ownsRow base 3 1 u zs.length (ivs zs))
    (ho : w6.ownsRow base 22 1 v6 (us.length + 1) (us ++ [u])) (hg : w2.grownBy w6 v.ownBlock) : Rack base w6 v6 (us ++ [u]) (L ++ [zs]) := by
  have h' := h.kept k2
  obtain ⟨h1, h2, h3⟩ := h'
  have keep : ∀ {x : Value} {n : Nat} {xs : List Value}, w2.ownsRow base 3 1 x n xs → w6.ownsRow base 3 1 x n xs := by
    intro x n xs hx
    have hk : Kept (fun k => v.ownBlock = some k) w2 w6 := ⟨hg.os, hg.tape, hg.output, hg.size, fun k hk hn => hg.block k hk (fun e => hn e.symm)⟩
    refine hk.owns hx (fun k hb hs => ?_)
    obtain ⟨c1, g1⟩ := owns_type hx hb
    obtain ⟨c2, g2⟩ := owns_type h1 hs
    rw [g1] at g2
    simp at g2
  refine ⟨by simpa using ho, by simp [h2], fun i hi => ?_⟩
  by_cases hlt : i < L.length
  · obtain ⟨x, hx, hxo⟩ := h3 i hlt
    have e2 : (L ++ [zs]).getD i [] = L.getD i [] := by simp [List.getD, List.getElem?_append_left hlt]
    rw [e2]
    exact ⟨x, by rw [List.getElem?_append_left (by omega)]; exact hx, keep hxo⟩
  · have hie : i = L.length := by simp at hi; omega
    subst hie
    have e2 : (L ++ [zs]).getD L.length [] = zs := by simp [List.getD]
    rw [e2]
    exact ⟨u, by rw [← h2]; simp, keep hu⟩

end Go.Proofs.Ytlbnjclchmnomaa
