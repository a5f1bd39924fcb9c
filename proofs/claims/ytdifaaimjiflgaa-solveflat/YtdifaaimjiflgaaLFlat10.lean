/- The walk of SolveFlat. -/
import Derived.Test.YtdifaaimjiflgaaAwake10
import Derived.Test.YtdifaaimjiflgaaArgs
namespace Go.Proofs.Ytdifaaimjiflgaa
open Go.RowKit Bx

theorem ext_flat {A : List Int} (h : ∀ j, A.getD j 0 = 0) : ∀ j, (ext A 0).getD j 0 = 0 := by
  intro j
  by_cases h1 : j < A.length
  · rw [ext_get A 0 j h1, h j]; simp
  · by_cases h2 : j = A.length
    · subst h2; exact ext_last A 0
    · simp [List.getD, List.getElem?_eq_none (show (ext A 0).length ≤ j by rw [ext_length]; omega)]

theorem within_flat {A : List Int} (h : ∀ j, A.getD j 0 = 0) : within A = true := by
  rw [within_iff]
  intro f hf
  obtain ⟨i, hi, rfl⟩ := List.mem_iff_getElem.1 hf
  have := h i
  rw [show A.getD i 0 = A[i] by simp [List.getD, hi]] at this
  omega

theorem slv_flat {x : List Int} (hx : ∀ i, 1 ≤ i → x.getD i 0 = 0) : ∀ (n : Nat) (A : List Int) (e : Int), (∀ j, A.getD j 0 = 0) → 1 ≤ e →
    (slv x n A e).length = n ∧ ∀ i j, ((slv x n A e).getD i []).getD j 0 = 0
  | 0, A, e, _, _ => by simp [slv]
  | n + 1, A, e, hA, he => by
    have hu : usum x A (A.length + 1) A.length = 0 := by
      unfold usum fore
      rw [hx _ (by omega), sumTo_zero (fun i _ => by rw [hA i]; simp)]
      rfl
    have hq : quoOf x A e = 0 := by unfold quoOf; rw [hu]; simp
    have hl : les e 0 = e := by simp [les]
    have h1 := ext_flat hA
    rw [slv_step x A e n (by rw [hq]; decide) (by rw [hq]; exact within_flat h1) (by rw [hq, hl]; exact he), hq, hl]
    obtain ⟨i1, i2⟩ := slv_flat hx n (ext A 0) e h1 he
    refine ⟨by simp [i1], fun i j => ?_⟩
    cases i with
    | zero => simpa using h1 j
    | succ i => simpa using i2 i j

theorem flat_get (z : Int) (m i : Nat) (h : 1 ≤ i) : (z :: List.replicate m 0).getD i 0 = 0 := by
  obtain ⟨k, rfl⟩ : ∃ k, i = k + 1 := ⟨i - 1, by omega⟩
  rw [List.getD_cons_succ, List.getD_eq_getElem?_getD, List.getElem?_replicate]
  split <;> rfl

theorem rt_flat (z : Int) (m : Nat) (h0 : 0 ≤ z) (h1 : z ≤ 4611686018427387904) : Rt (z :: List.replicate m 0) := by
  refine .inr ⟨h0, h1, fun i hi => ?_⟩
  rw [List.getD_cons_zero]
  cases i with
  | zero => simp; omega
  | succ i => rw [flat_get z m (i + 1) (by omega)]; omega

theorem sol_flat (z : Int) (m : Nat) (h0 : 1 ≤ z) (h1 : z ≤ 4611686018427387904) (order : Int) : (sol (z :: List.replicate m 0) order).length = ords (z :: List.replicate m 0) order ∧ ∀ i j, ((sol (z :: List.replicate m 0) order).getD i []).getD j 0 = 0 := by
  unfold sol
  rw [if_neg (by simp; omega)]
  refine slv_flat (fun i hi => ?_) _ _ _ (by simp) (low_bd (rt_flat z m (by omega) h1) h0).lo
  rw [low_get, flat_get z m i hi]
  simp

theorem flat_nums (p q f : Nat) : ∃ m n g k z : Nat, (1 : Int) + (p : Int) % 40 = ((m + 1 : Nat) : Int) ∧ m ≤ 39 ∧ (q : Int) % 40 = (n : Int) ∧ n ≤ 39 ∧ (f : Int) % 4611686018427387904 = (g : Int) ∧ wrap64 (g : Int) = (g : Int) ∧ 1 + (g : Int) = (z : Int) ∧ 1 ≤ z ∧ z ≤ 4611686018427387904 ∧
    (∃ p1 : Int, (if 32 < (n : Int) then (32 : Int) else (n : Int)) = p1 ∧ (if (m : Int) < p1 then (m : Int) else p1) = (k : Int)) ∧ ords ((z : Int) :: List.replicate m 0) (n : Int) = k ∧ k ≤ 32 := by
  refine ⟨p % 40, q % 40, f % 4611686018427387904, min (min (q % 40) 32) (p % 40), f % 4611686018427387904 + 1, by omega, by omega, by omega, by omega, by omega, by unfold wrap64; omega, by omega, by omega, by omega, ⟨_, rfl, ?_⟩, ?_, by omega⟩
  · omega
  · unfold ords
    simp only [List.length_cons, List.length_replicate]
    omega

def FlatO (vr : Value) (k : Nat) (w : World) (a : Act) (w' : World) : Prop :=
  a.defers = [] ∧ a.tmps.size = 74 ∧ a.tmps[7]? = some (.bool true) ∧ a.tmps[10]? = some vr ∧ ∃ i : Nat, i ≤ k ∧ a.tmps[11]? = some (.int .i64 (i : Int)) ∧ w' = w

def FlatI (vr : Value) (i n : Nat) (w : World) (a : Act) (w' : World) : Prop :=
  a.defers = [] ∧ a.tmps.size = 74 ∧ a.tmps[7]? = some (.bool true) ∧ a.tmps[10]? = some vr ∧ a.tmps[11]? = some (.int .i64 (i : Int)) ∧ ∃ j : Nat, j ≤ n ∧ a.tmps[12]? = some (.int .i64 (j : Int)) ∧ w' = w

set_option maxHeartbeats 4000000 in
theorem walk_SolveFlat (w : World) (first : Int) (wf : (Lit.int .u64 first).wf = true) (many : Int) (wm : (Lit.int .u8 many).wf = true) (order : Int) (wo : (Lit.int .u8 order).wf = true) :
    Calls Try.prog 6 #[.int .u64 first, .int .u8 many, .int .u8 order] w fun e w' => e = .returned (.bool true) ∧ Kept Nix w w' := by
  have HA := awake_any w
  have h1 := bounds_u64 wf
  obtain ⟨f, rfl⟩ := Int.eq_ofNat_of_zero_le h1.1
  obtain ⟨p, rfl, hp⟩ := nat_u8 wm
  obtain ⟨q, rfl, hq⟩ := nat_u8 wo
  obtain ⟨m, n, g, k, z, n1, n2, n3, n4, n5, n6, n7, n8, n9, ⟨p1, n10, n11⟩, n12, n13⟩ := flat_nums p q f
  have hmk := make_int (m + 1) (by omega)
  generalize hl : m + 1 = l at *
  have HL := Lib.hid hl
  have N8 := Lib.hid (And.intro n8 n9)
  have N10 := Lib.hid (And.intro n10 n11)
  have N12 := Lib.hid (And.intro n12 n13)
  have N2 := Lib.hid (And.intro n2 n4)
  clear wf wm wo h1 hp hq hl n8 n9 n10 n11 n12 n13 n2 n4
  have O1 := Lib.hid (fun w => solve_any _ (List.replicate l 0) (n : Int) (w.alloc (.cells (ivs (List.replicate l 0)).toArray 3)) (sl_lit w (List.replicate l 0) l (by simp) (by have := HL.out; have := N2.out; simp only [maxLen]; omega)) (by rw [← HL.out]; exact rt_flat 0 m (by decide) (by decide)) (by simp; have := HL.out; have := N2.out; omega))
  have hz0 : sol (List.replicate l 0) (n : Int) = [] := rt_none (by rw [← HL.out]; simp [List.replicate_succ]) _
  unfold SolPost at O1
  rw [hz0] at O1
  have O2 := Lib.hid (fun w => solve_any _ [] (n : Int) w (sl_nil_i w) (.inl rfl) (by simp))
  have hz2 : sol [] (n : Int) = [] := rt_none (by simp) _
  unfold SolPost at O2
  rw [hz2] at O2
  clear hz0 hz2
  go_enter Try.func6, Try.ntmps6
  go_upto_region 6 with (first
    | (go_at_call 9; refine HA.mono ?_; rintro e w1 ⟨rfl, k1⟩; have K1 := Lib.hid k1; clear k1 HA)
    | (go_at_call 12; refine (O1.out _).mono ?_; rintro e w2 ⟨u2, us2, rfl, r2, k2⟩; clear O1; have K2 := Lib.hid k2; have S2 := Lib.hid r2.chs; clear r2 k2; obtain ⟨ao2, ca2, rfl, -, -, -⟩ := S2.out.open; simp only [List.length_nil])
    | (go_at_call 12; refine (O2.out _).mono ?_; rintro e w3 ⟨u3, us3, rfl, r3, k3⟩; clear O2; have K3 := Lib.hid k3; have S3 := Lib.hid r3.chs; clear r3 k3; obtain ⟨ao3, ca3, rfl, -, -, -⟩ := S3.out.open; simp only [List.length_nil]))
  have hrow := lit_row w1 (List.replicate l 0) l (by simp) (by have := HL.out; have := N2.out; simp only [maxLen]; omega)
  have HO := Lib.hid ((nix_trans K2.out K3.out).owns hrow (fun _ _ h => h))
  have hst := HO.out.stored 0 (.int .i64 (z : Int))
  rw [ivs_set, show (List.replicate l (0 : Int)).set 0 (z : Int) = (z : Int) :: List.replicate m 0 by rw [← HL.out, List.replicate_succ]; rfl] at hst
  have HS := Lib.hid hst.1
  have KS := Lib.hid ((nix_trans ((Kept.refl _ w1).alloc (.cells (ivs (List.replicate l 0)).toArray 3)) (nix_trans K2.out K3.out)).setCell (p := ⟨w1.heap.size, 0, none⟩) (.inr (Nat.le_refl _)) (.int .i64 (z : Int)))
  have hl0 : 0 < l := by have := HL.out; omega
  have hl0' : (0 : Int) < (l : Int) := by omega
  have hfz : w3.frozen? ⟨w1.heap.size, 0, none⟩ = false := HO.out.frozenAt 0
  obtain ⟨c0, hc0⟩ : ∃ c, w3.cell? ⟨w1.heap.size, 0, none⟩ = some c := ⟨_, (HO.out.cellAt 0 (by omega)).trans (ivs_get _ _ (by rw [List.length_replicate]; omega))⟩
  have O3 := Lib.hid (solve_any _ _ (n : Int) _ (sl_of_owns HS.out) (rt_flat (z : Int) m (by omega) (by have := N8.out; omega)) (by rw [List.length_cons, List.length_replicate]; have := N2.out; omega))
  obtain ⟨r1, r2⟩ := sol_flat (z : Int) m (by have := N8.out; omega) (by have := N8.out; omega) (n : Int)
  rw [N12.out.1] at r1
  have HR := Lib.hid r2
  unfold SolPost at O3
  have hw1 : wrap64 ((l : Int) - 1) = (m : Int) := by have := HL.out; have := N2.out; unfold wrap64; omega
  obtain ⟨n10, n11⟩ := N10.out
  have tk : ((k : Int) != (k : Int)) = false := by simp
  clear hmk hrow hst S2 S3 K2 K3 HO HS r2
  generalize sol ((z : Int) :: List.replicate m 0) (n : Int) = R at *
  have HRL := Lib.hid r1
  clear r1
  go_upto_region 7 with fail
  clear n1 n3 n5 n6 n7 hfz hc0
  generalize (w3.setCell ⟨w1.heap.size, 0, none⟩ (Value.int IntKind.i64 ↑z)) = w4 at *
  go_upto_region 8 with (go_at_call 12; refine O3.out.mono ?_; rintro e w5 ⟨u5, us5, rfl, r5, k5⟩; have K5 := Lib.hid (nix_trans KS.out k5); have S5 := Lib.hid r5.chs; clear r5 k5 O3)
  obtain ⟨ao5, ca5, rfl, -, -, -⟩ := S5.out.open
  rw [HRL.out]
  go_wp2
  clear hw1 n10 n11 tk
  refine wp_loop (FlatO (.slice ao5 k ca5) k w5) (fun a _ => k - (intOf (a.tmps.getD 11 undef)).toNat) ?_ ?_
  · exact ⟨rfl, rfl, rfl, rfl, 0, Nat.zero_le _, rfl, rfl⟩
  · rintro ⟨tm, df⟩ w6 ⟨rfl, hs, e7, e10, i, hi, e11, rfl⟩
    simp only at hs e7 e10 e11
    obtain ⟨fr, hf, hg⟩ := fr_open hs
    have g7 := hg _ _ e7
    have g10 := hg _ _ e10
    have g11 := hg _ _ e11
    simp only [List.range, List.range.loop, List.map] at hf
    rw [g7, g10, g11] at hf
    clear g7 g10 g11 hg hs e7 e10 e11
    subst hf
    by_cases hlt : i < k
    · have hd : decide (i < k) = true := decide_eq_true hlt
      have i1 : (i : Int) < (k : Int) := by omega
      obtain ⟨b1, o1, rfl, _, A, C, hh⟩ := S5.out.at (by rw [HRL.out]; omega)
      obtain ⟨y1, s1⟩ := hh i (by rw [HRL.out]; exact hlt)
      have hwi : wrap64 ((i : Int) + 1) = ((i + 1 : Nat) : Int) := by have := N12.out; unfold wrap64; omega
      have HWI := Lib.hid hwi
      have HI := Lib.hid hlt
      have HRi := Lib.hid (HR.out i)
      have hrl := row_len s1
      have S1 := Lib.hid (sl_ivs s1)
      clear hlt hi hh s1 hwi
      generalize R.getD i [] = row at *
      generalize A i = a1 at *
      generalize C i = c1 at *
      generalize hn : row.length = ln at *
      have HN := Lib.hid hn
      have HRL2 := Lib.hid (show ln ≤ 9223372036854775807 by simp only [maxLen] at hrl; omega)
      clear hn hrl
      go_wp2
      refine wp_loop (FlatI (.slice (some ⟨b1, o1, none⟩) k ca5) i ln w6) (fun a _ => ln - (intOf (a.tmps.getD 12 undef)).toNat) ?_ ?_
      · exact ⟨rfl, rfl, rfl, rfl, rfl, 0, Nat.zero_le _, rfl, rfl⟩
      · rintro ⟨tm, df⟩ w7 ⟨rfl, hs, e7, e10, e11, j, hj, e12, rfl⟩
        simp only at hs e7 e10 e11 e12
        obtain ⟨fr2, hf, hg⟩ := fr_open hs
        have g7 := hg _ _ e7
        have g10 := hg _ _ e10
        have g11 := hg _ _ e11
        have g12 := hg _ _ e12
        simp only [List.range, List.range.loop, List.map] at hf
        rw [g7, g10, g11, g12] at hf
        clear g7 g10 g11 g12 hg hs e7 e10 e11 e12
        subst hf
        by_cases hlt : j < ln
        · have hd2 : decide (j < ln) = true := decide_eq_true hlt
          have j1 : (j : Int) < (ln : Int) := by omega
          obtain ⟨b2, o2, rfl, hc2⟩ := cell_kept S1.out j (by rw [HN.out]; exact hlt)
          have c2 := hc2 _ (Kept.refl _ _)
          rw [HRi.out j] at c2
          have hwj : wrap64 ((j : Int) + 1) = ((j + 1 : Nat) : Int) := by have := HRL2.out; unfold wrap64; omega
          have HWJ := Lib.hid hwj
          have HJ := Lib.hid hlt
          clear hlt hj hc2 hwj
          go_wp2
          rw [HWJ.out]
          exact ⟨⟨rfl, rfl, rfl, rfl, rfl, j + 1, HJ.out, rfl, rfl⟩, nearer HJ.out rfl⟩
        · have hd2 : decide (j < ln) = false := decide_eq_false hlt
          clear hlt hj
          go_wp2
          rw [HWI.out]
          exact ⟨⟨rfl, rfl, rfl, rfl, i + 1, HI.out, rfl, rfl⟩, nearer HI.out rfl⟩
    · have hd : decide (i < k) = false := decide_eq_false hlt
      clear hlt hi
      go_wp2
      go_ret
      exact ⟨rfl, nix_trans K1.out K5.out⟩

end Go.Proofs.Ytdifaaimjiflgaa
