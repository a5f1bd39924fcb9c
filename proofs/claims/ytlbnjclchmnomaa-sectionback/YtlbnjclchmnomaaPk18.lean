/- Package parts: sums, and the best way of one part of them. -/
import Derived.Test.YtlbnjclchmnomaaPk17

namespace Go.Proofs.Ytlbnjclchmnomaa
open Go.RowKit Bx

/-- Three slices that are what the parts come to. -/
structure Sums (w : World) (v1 v2 v3 : Value) (P : List (List Int)) (K : Nat) : Prop where
  many : Sl w v1 (ivs (ni (P.map List.length)))
  widths : Sl w v2 (ivs (ni (P.map cw)))
  bits : Chs w v3 ((rws P K).map ni)

theorem Sums.nix {w w' : World} {v1 v2 v3 : Value} {P : List (List Int)} {K : Nat} (h : Sums w v1 v2 v3 P K) (hk : Kept Nix w w') : Sums w' v1 v2 v3 P K := ⟨h.many.nix hk, h.widths.nix hk, h.bits.nix hk⟩

/-- Parts of which all is known that the sums need. -/
structure Fine (P : List (List Int)) : Prop where
  nr : ∀ Q ∈ P, nrs Q = true
  len : P.length ≤ 32768
  all : tl P ≤ 1048576

theorem get_mem {P : List (List Int)} {i : Nat} (h : i < P.length) : P.getD i [] ∈ P := by
  simp [List.getD, h]

theorem Fine.get {P : List (List Int)} (h : Fine P) {i : Nat} (hi : i < P.length) : nrs (P.getD i []) = true ∧ (P.getD i []).length ≤ 1048576 :=
  ⟨h.nr _ (get_mem hi), Nat.le_trans (tl_get P i hi) h.all⟩

theorem map_get (P : List (List Int)) (f : List Int → Nat) (i : Nat) (h : i < P.length) : (P.map f).getD i 0 = f (P.getD i []) := by
  simp [List.getD, h]

theorem size_sums : (Try.prog.info? 79).map (·.size) = some 3 := by kernel_rfl

theorem wp_rows_len (P : List (List Int)) (K : Nat) : ((rws P K).map ni).length = K := by rw [List.length_map, rws_length]
theorem rows_get (P : List (List Int)) (K k : Nat) (h : k < K) : ((rws P K).map ni).getD k [] = ni (P.map (fun Q => sN Q k)) := by
  rw [← rws_get P K k h]
  simp [List.getD, rws_length, h]

def SBMid (i m g3 g6 : Nat) (n0 : Nat) (w2 : World) (f : Act) (w' : World) : Prop :=
  f.defers = [] ∧ f.tmps.size = 75 ∧ f.tmps[1]? = some (.int .i64 (i : Int)) ∧ f.tmps[2]? = some (.int .i64 (m : Int)) ∧ f.tmps[3]? = some (.pointer (some ⟨g3, 0, none⟩)) ∧ f.tmps[6]? = some (.pointer (some ⟨g6, 0, none⟩)) ∧
  ∃ g8 : Nat, f.tmps[8]? = some (.pointer (some ⟨g8, 0, none⟩)) ∧ f.tmps[9]? = some (.int .i64 (n0 : Int)) ∧ w'.heap[g8]? = some (.cells #[.int .i64 0, .bool false] 50 (0, 0)) ∧ Kept Nix w2 w' ∧ w2.heap.size ≤ g8

def SBInv (g3 g6 g8 : Nat) (vs : Value) (Q : List Int) (i M : Nat) (w2 : World) (f : Act) (w' : World) : Prop :=
  f.defers = [] ∧ f.tmps.size = 75 ∧ f.tmps[1]? = some (.int .i64 (i : Int)) ∧ f.tmps[3]? = some (.pointer (some ⟨g3, 0, none⟩)) ∧ f.tmps[6]? = some (.pointer (some ⟨g6, 0, none⟩)) ∧ f.tmps[8]? = some (.pointer (some ⟨g8, 0, none⟩)) ∧ f.tmps[30]? = some vs ∧ f.tmps[31]? = some (.int .i64 (M : Int)) ∧
  ∃ j : Nat, j ≤ M ∧ f.tmps[32]? = some (.int .i64 (j : Int)) ∧ f.tmps[9]? = some (.int .i64 (sN Q (bk Q (j - 1)) : Int)) ∧ Hid (w'.heap[g8]? = some (.cells #[.int .i64 (bk Q (j - 1) : Int), .bool false] 50 (0, 0))) ∧ Kept Nix w2 w'

theorem raw_two (l c : Nat) (hl : l ≤ 1048576) (hc : c ≤ 34) : ∃ R : Nat, R = 5 + l * c ∧ wrap64 ((l : Int) * (c : Int)) = ((l * c : Nat) : Int) ∧ wrap64 (5 + (l : Int) * (c : Int)) = (R : Int) := by
  have h : l * c ≤ 1048576 * 34 := Nat.mul_le_mul hl hc
  refine ⟨_, rfl, ?_, ?_⟩
  · rw [show (l : Int) * (c : Int) = ((l * c : Nat) : Int) by simp]
    exact small_i _ (by omega)
  · rw [show 5 + (l : Int) * (c : Int) = ((5 + l * c : Nat) : Int) by simp]
    exact small_i _ (by omega)

theorem bk_next (Q : List Int) (j : Nat) : bk Q (j + 1 - 1) = if sN Q j < sN Q (bk Q (j - 1)) then j else bk Q (j - 1) := by
  cases j with
  | zero => simp [bk]
  | succ j => simp only [Nat.add_sub_cancel, bk]

set_option maxRecDepth 10000 in
set_option maxHeartbeats 4000000 in
theorem sbest_any (v1 v2 v3 : Value) (P : List (List Int)) (K g i m : Nat) (w : World) (hS : Sums w v1 v2 v3 P K) (hT : Stp P K g) (hF : Fine P) (hm : m ≤ g) (hg : g ≤ 30) (hi : i < P.length) :
    Calls Try.prog 68 #[.agg #[v1, v2, v3], .int .i64 (i : Int), .int .i64 (m : Int)] w fun e w' => e = .returned (.tuple #[.agg #[.int .i64 (bestK (P.getD i []) m), .bool (bestR (P.getD i []) m)], .int .i64 (bestN (P.getD i []) m)]) ∧ Kept Nix w w' := by
  have hb := heap_alloc_new w (.cells #[v1, v2, v3] 79)
  have k1 : Kept Nix w (w.alloc (.cells #[v1, v2, v3] 79)) := (Kept.refl _ w).alloc _
  have HB := Lib.hid (fun w' (h : Kept Nix (w.alloc (.cells #[v1, v2, v3] 79)) w') => cells_three (h.heap hb id))
  have K1 := Lib.hid k1
  have S1 := Lib.hid (hS.nix k1)
  obtain ⟨a1, c1, rfl, -⟩ := hS.many.ints
  obtain ⟨a2, c2, rfl, -⟩ := hS.widths.ints
  obtain ⟨a3, c3, rfl, hc3, hm3, -⟩ := hS.bits.open
  have hq := hF.get hi
  obtain ⟨Q, hQ⟩ : ∃ Q, P.getD i [] = Q := ⟨_, rfl⟩
  rw [hQ] at hq ⊢
  have R0 := Lib.hid (fun j (hj : j < K) => by
    have h := S1.out.bits.row j (by rw [wp_rows_len]; exact hj)
    rw [rows_get P K j hj, ni_length, List.length_map] at h
    exact h)
  have GE := Lib.hid (fun j => show (ni (P.map (fun Q => sN Q j))).getD i 0 = (sN Q j : Int) by rw [ni_get, map_get P _ i hi, hQ])
  have G1 := Lib.hid (show (ni (P.map List.length)).getD i 0 = (Q.length : Int) by rw [ni_get, map_get P _ i hi, hQ])
  have G2 := Lib.hid (show (ni (P.map cw)).getD i 0 = (cw Q : Int) by rw [ni_get, map_get P _ i hi, hQ])
  have M1 := Lib.hid S1.out.many
  have M2 := Lib.hid S1.out.widths
  have HT := Lib.hid hT
  have HCUT := Lib.hid (bk_cut hT (show Q ∈ P by rw [← hQ]; exact get_mem hi) hm)
  have HQ := Lib.hid hq
  have HIL := Lib.hid (And.intro hi hF.len)
  have HMG := Lib.hid (And.intro hm hg)
  have HC3 := Lib.hid hc3
  simp only [rws_length, ni_length, List.length_map] at *
  clear hb k1 hS hT hF hm hg hi hc3 hm3 S1 hQ hq
  generalize hn : P.length = n at *
  have HNP := Lib.hid hn
  clear hn
  go_enter Try.func68, Try.ntmps68
  go_upto_region 1 with fail
  have KA := Lib.hid ((Kept.refl Nix (w.alloc (.cells #[.slice a1 n c1, .slice a2 n c2, .slice a3 K c3] 79))).alloc (.cells #[.int .i64 0, .bool false] 50))
  have H6 := Lib.hid (heap_alloc_new (w.alloc (.cells #[.slice a1 n c1, .slice a2 n c2, .slice a3 K c3] 79)) (.cells #[.int .i64 0, .bool false] 50))
  have hsz : (w.alloc (.cells #[.slice a1 n c1, .slice a2 n c2, .slice a3 K c3] 79)).heap.size = w.heap.size + 1 := by simp
  rw [hsz] at H6
  generalize (w.alloc (.cells #[.slice a1 n c1, .slice a2 n c2, .slice a3 K c3] 79)).alloc (.cells #[.int .i64 0, .bool false] 50) = w2 at *
  generalize w.alloc (.cells #[.slice a1 n c1, .slice a2 n c2, .slice a3 K c3] 79) = w1 at *
  obtain ⟨g6, hg6⟩ : ∃ g6, w.heap.size + 1 = g6 := ⟨_, rfl⟩
  obtain ⟨x0, x1, x2⟩ := HB.out w2.drew KA.out.drew
  obtain ⟨b3, o3, rfl, ro, rc, hr⟩ := R0.out 0 HT.out.lo
  obtain ⟨y0, ys⟩ := hr w2.drew KA.out.drew
  obtain ⟨b4, o4, rfl, hc4⟩ := cell_kept ys i (by rw [ni_length, List.length_map, HNP.out]; exact HIL.out.1)
  have y1 := hc4 _ (Kept.refl _ _)
  have kz : Kept Nix w2.drew (w2.alloc (.cells #[.int .i64 0, .bool false] 50)) := (show Kept Nix w2.drew w2 from ⟨rfl, rfl, rfl, Nat.le_refl _, fun _ _ _ => rfl⟩).alloc _
  have z1 := hc4 _ kz
  rw [GE.out 0] at y1 z1
  obtain ⟨u0, u1, u2⟩ := HB.out (w2.alloc (.cells #[.int .i64 0, .bool false] 50)) (KA.out.alloc _)
  obtain ⟨z0, -⟩ := hr (w2.alloc (.cells #[.int .i64 0, .bool false] 50)) (KA.out.alloc _)
  have j0 : (i : Int) < (n : Int) := by have := HIL.out.1; omega
  have j1 : i < n := HIL.out.1
  have j2 : (0 : Int) < (K : Int) := by have := HT.out.lo; omega
  have j3 : 0 < K := by have := HT.out.lo; omega
  rw [hg6] at H6 ⊢
  clear hr hc4 ys kz
  simp only [Nat.add_zero] at y0 z0
  refine wp_cut (SBMid i m w.heap.size g6 (sN Q 0) w2) ?_ ?_
  case refine_2 =>
    intro J K' hJ hK'
    have HG8 := Lib.hid (heap_alloc_new w2 (.cells #[.int .i64 0, .bool false] 50))
    go_region_law fail
    all_goals
      refine hK' _ _ (Met.intro (hJ _ _ ⟨rfl, rfl, rfl, rfl, rfl, rfl, w2.heap.size, rfl, rfl, ?_, ?_, Nat.le_refl _⟩))
      · exact HG8.out
      · exact ((Kept.refl Nix w2).alloc _).drew
  clear x0 x1 x2 u0 u1 u2 y0 y1 z0 z1 j0 j1 j2 j3
  rintro ⟨tm, df⟩ w3 ⟨rfl, hs, e1, e2, e3, e6, g8, e8, e9, h8, k8, hg8⟩
  simp only at hs e1 e2 e3 e6 e8 e9
  obtain ⟨f, hf, hg⟩ := fr_open hs
  have g1 := hg _ _ e1
  have g2 := hg _ _ e2
  have g3 := hg _ _ e3
  have g6' := hg _ _ e6
  have g8' := hg _ _ e8
  have g9 := hg _ _ e9
  simp only [List.range, List.range.loop, List.map] at hf
  rw [g1, g2, g3, g6', g8', g9] at hf
  clear g1 g2 g3 g6' g8' g9 hg hs e1 e2 e3 e6 e8 e9
  subst hf
  have H8 := Lib.hid h8
  have K8 := Lib.hid k8
  have HG8 := Lib.hid hg8
  clear h8 k8 hg8
  obtain ⟨x0, x1, x2⟩ := HB.out w3 (nix_trans KA.out K8.out)
  obtain ⟨M, hM⟩ : ∃ M, min (m + 1) K = M := ⟨_, rfl⟩
  obtain ⟨m1, hm1⟩ : ∃ m1, m + 1 = m1 := ⟨_, rfl⟩
  have hw : wrap64 ((m : Int) + 1) = (m1 : Int) := by have := HMG.out; rw [w64_in _ (by omega)]; omega
  have hmn : (if (K : Int) < (m1 : Int) then (K : Int) else (m1 : Int)) = (M : Int) := by split <;> omega
  have hmn2 : (if K < m1 then (K : Int) else (m1 : Int)) = (M : Int) := by split <;> omega
  have hup := fun w => run_upto_rw w (some ⟨b3, o3, none⟩) K c3 M (by have := HC3.out; omega)
  have hM0 := HT.out.lo
  rw [hM] at HCUT
  have HMM := Lib.hid (show 1 ≤ M ∧ M ≤ K ∧ M ≤ 31 by have := HMG.out; omega)
  clear hM hm1 hM0
  go_wp2
  clear x0 x1 x2 hw hmn hmn2 hup
  refine wp_loop (SBInv w.heap.size g6 g8 (.slice (some ⟨b3, o3, none⟩) M c3) Q i M w2) (fun f _ => M - (intOf (f.tmps.getD 32 undef)).toNat) ?_ ?_
  · exact ⟨rfl, rfl, rfl, rfl, rfl, rfl, rfl, rfl, 0, Nat.zero_le _, rfl, rfl, Lib.hid H8.out, K8.out⟩
  · clear H8 K8
    rintro ⟨tm, df⟩ w4 ⟨rfl, hs, e1, e3, e6, e8, e30, e31, j, hj, e32, e9, h8, k8⟩
    simp only at hs e1 e3 e6 e8 e30 e31 e32 e9
    obtain ⟨f4, hf, hg⟩ := fr_open hs
    have g1 := hg _ _ e1
    have g3 := hg _ _ e3
    have g6' := hg _ _ e6
    have g8' := hg _ _ e8
    have g30 := hg _ _ e30
    have g31 := hg _ _ e31
    have g32 := hg _ _ e32
    have g9 := hg _ _ e9
    simp only [List.range, List.range.loop, List.map] at hf
    rw [g1, g3, g6', g8', g30, g31, g32, g9] at hf
    clear g1 g3 g6' g8' g30 g31 g32 g9 hg hs e1 e3 e6 e8 e30 e31 e32 e9
    subst hf
    have H8 := Lib.hid h8.out
    have K8 := Lib.hid k8
    clear h8 k8
    by_cases hlt : j < M
    · have hdd : decide (j < M) = true := decide_eq_true hlt
      have hj1 : (j : Int) < (M : Int) := by omega
      obtain ⟨b5, o5, hbe, ro5, rc5, hr⟩ := R0.out j (by have := HMM.out; omega)
      simp only [Option.some.injEq, Addr.mk.injEq, and_true] at hbe
      obtain ⟨rfl, rfl⟩ := hbe
      obtain ⟨y0, ys⟩ := hr w4 (nix_trans KA.out K8.out)
      obtain ⟨b4, o4, rfl, hc4⟩ := cell_kept ys i (by rw [ni_length, List.length_map, HNP.out]; exact HIL.out.1)
      have y1 := hc4 w4 (Kept.refl _ _)
      have y2 := hc4 w4.drew (Kept.refl _ _).drew
      have k9 : Kept Nix w1 ((w4.setCell ⟨g8, 0, none⟩ (.int .i64 (j : Int))).setCell ⟨g8, 1, none⟩ (.bool false)) := ((nix_trans KA.out K8.out).setCell (.inr (Nat.le_trans KA.out.size HG8.out)) _).setCell (.inr (Nat.le_trans KA.out.size HG8.out)) _
      obtain ⟨-, ys5⟩ := hr _ k9
      obtain ⟨b6, o6, hbe, hc6⟩ := cell_kept ys5 i (by rw [ni_length, List.length_map, HNP.out]; exact HIL.out.1)
      simp only [Option.some.injEq, Addr.mk.injEq, and_true] at hbe
      obtain ⟨rfl, rfl⟩ := hbe
      have y3 := hc6 _ (Kept.refl _ _)
      rw [GE.out j] at y1 y2 y3
      have q0 : (i : Int) < (n : Int) := by have := HIL.out.1; omega
      have q1 : i < n := HIL.out.1
      have HI := Lib.hid hlt
      have HW := Lib.hid (show wrap64 ((j : Int) + 1) = ((j + 1 : Nat) : Int) by have := HMM.out; rw [w64_in _ (by omega)]; omega)
      have BN := Lib.hid (bk_next Q j)
      clear hr hc4 ys hlt hj k9 ys5 hc6
      generalize hbb : bk Q (j + 1 - 1) = bn at *
      have HB1 := Lib.hid hbb
      clear hbb
      generalize hb0 : bk Q (j - 1) = b0 at *
      by_cases hsm : sN Q j < sN Q b0
      · have hbn := BN.out
        rw [if_pos hsm] at hbn
        have t1 : decide (sN Q j < sN Q b0) = true := decide_eq_true hsm
        have HBN := Lib.hid (show bk Q (j + 1 - 1) = j from HB1.out.trans hbn)
        subst hbn
        clear hsm BN HB1
        generalize sN Q b0 = s0 at *
        generalize hs1 : sN Q bn = s1 at *
        have HS1 := Lib.hid hs1
        clear hs1
        go_upto_region 6 with fail
        have p0 := (cell_of (i := 0) H8.out).trans rfl
        have p1 := (cell_of (i := 1) H8.out).trans rfl
        have p2 := frozen_of (i := 0) H8.out
        have p3 := frozen_of (i := 1) H8.out
        go_region_law fail
        all_goals
          have H9 := Lib.hid (heap_set (i := 1) (u := .bool false) (heap_set (i := 0) (u := .int .i64 (bn : Int)) H8.out))
          have K9 := Lib.hid (((K8.out.setCell (p := ⟨g8, 0, none⟩) (.inr HG8.out) (.int .i64 (bn : Int))).setCell (p := ⟨g8, 1, none⟩) (.inr HG8.out) (.bool false)).drew)
          clear p0 p1 p2 p3 y0 y1 y2 y3
          go_wp2
          rw [HW.out]
          refine ⟨⟨rfl, rfl, rfl, rfl, rfl, rfl, rfl, rfl, bn + 1, HI.out, rfl, ?_, ?_, K9.out⟩, nearer HI.out rfl⟩
          · rw [HBN.out, HS1.out]; rfl
          · rw [HBN.out]; exact Lib.hid H9.out
      · have hbn := BN.out
        rw [if_neg hsm] at hbn
        have t1 : decide (sN Q j < sN Q b0) = false := decide_eq_false hsm
        have HBN := HB1
        subst hbn
        clear hsm BN HB1
        generalize hs0 : sN Q bn = s0 at *
        have HS0 := Lib.hid hs0
        generalize sN Q j = s1 at *
        clear hs0
        go_wp2
        rw [HW.out]
        refine ⟨⟨rfl, rfl, rfl, rfl, rfl, rfl, rfl, rfl, j + 1, HI.out, rfl, ?_, ?_, K8.out⟩, nearer HI.out rfl⟩
        · rw [HBN.out, HS0.out]; rfl
        · rw [HBN.out]; exact Lib.hid H8.out
    · have hje : j = M := by omega
      subst hje
      have hdd : decide (j < j) = false := decide_eq_false hlt
      rw [HCUT.out] at H8 ⊢
      clear hlt hj
      obtain ⟨x0, x1, x2⟩ := HB.out w4 (nix_trans KA.out K8.out)
      obtain ⟨b5, o5, rfl, hc5⟩ := cell_kept M1.out i (by rw [ni_length, List.length_map, HNP.out]; exact HIL.out.1)
      obtain ⟨b6, o6, rfl, hc6⟩ := cell_kept M2.out i (by rw [ni_length, List.length_map, HNP.out]; exact HIL.out.1)
      have y1 := hc5 w4 (nix_trans KA.out K8.out)
      have y2 := hc6 w4 (nix_trans KA.out K8.out)
      rw [G1.out] at y1
      rw [G2.out] at y2
      have q0 : (i : Int) < (n : Int) := by have := HIL.out.1; omega
      have q1 : i < n := HIL.out.1
      have hcw := cw_near HQ.out.1
      obtain ⟨RR, hRR, e1, e2⟩ := raw_two Q.length (cw Q) HQ.out.2 hcw
      have H6' := Lib.hid (K8.out.heap H6.out id)
      have HG6 := Lib.hid (show g6 < w2.heap.size by have := KA.out.size; have := (Array.getElem?_eq_some_iff.1 H6.out).1; exact this)
      have HNE := Lib.hid (show g6 ≠ g8 by have := HG6.out; have := HG8.out; omega)
      have hbest := best_near HQ.out.1 m
      obtain ⟨hb1, hb2, hb3, -⟩ := hbest
      have KR := Lib.hid (nix_trans K1.out (nix_trans KA.out K8.out))
      have HGW := Lib.hid (show w.heap.size ≤ g6 ∧ w.heap.size ≤ g8 by have := HG6.out; have := HG8.out; have := KA.out.size; have := K1.out.size; omega)
      clear hc5 hc6 R0 GE G1 G2 M1 M2
      cases hr : cbR Q m with
      | true =>
        have hr2 := hr
        simp only [cbR, Bool.and_eq_true, decide_eq_true_eq] at hr2
        have t1 : decide (((cw Q : Nat) : Int) ≤ 31) = true := decide_eq_true (by omega)
        have t2 : decide (RR < sN Q (bk Q m)) = true := decide_eq_true (by rw [hRR]; exact hr2.2)
        have HR := Lib.hid (show bestK Q m = (cw Q : Int) ∧ bestR Q m = true ∧ bestN Q m = (RR : Int) by rw [hb1, hb2, hb3, cbK, cbN, hr, if_pos rfl, if_pos rfl, hRR]; exact ⟨rfl, rfl, rfl⟩)
        clear hb1 hb2 hb3 hr hr2 hRR hcw
        generalize Q.length = ql at *
        generalize cw Q = cq at *
        generalize sN Q (bk Q m) = sb at *
        generalize bk Q m = bq at *
        go_wp2_with (first
          | (refine wpList_load_row rfl 50 _ rfl g8 rfl 50 _ (0, 0) _ (heap_row _ H8.out) Try.underlying50 rfl size_part ?_)
          | (refine wpList_store_row rfl 50 _ _ rfl _ _ rfl rfl 50 _ H8.out size_part rfl (one_part _ _) ?_)
          | (refine wpList_store_row rfl 50 _ _ rfl _ _ rfl rfl 50 _ ((heap_row_other _ HNE.out).trans H6'.out) size_part rfl (one_part _ _) ?_))
        refine bodyPost_ret (results_part1 rfl _ _ g6 _ (RR : Int) rfl (heap_row _ ((heap_row_other _ HNE.out).trans H6'.out)) rfl rfl) rfl ⟨?_, (KR.out.setRow (.inr HGW.out.2) _).setRow (.inr HGW.out.1) _⟩
        rw [HR.out.1, HR.out.2.1, HR.out.2.2]
      | false =>
        have hr2 := hr
        simp only [cbR, Bool.and_eq_false_iff, decide_eq_false_iff_not] at hr2
        have t2 : decide (((cw Q : Nat) : Int) ≤ 31) = false ∨ (decide (((cw Q : Nat) : Int) ≤ 31) = true ∧ decide (RR < sN Q (bk Q m)) = false) := by
          simp only [decide_eq_true_eq, decide_eq_false_iff_not]
          omega
        have HR := Lib.hid (show bestK Q m = (bk Q m : Int) ∧ bestR Q m = false ∧ bestN Q m = (sN Q (bk Q m) : Int) by rw [hb1, hb2, hb3, cbK, cbN, hr, if_neg (by simp), if_neg (by simp)]; exact ⟨rfl, rfl, rfl⟩)
        clear hb1 hb2 hb3 hr hr2 hRR hcw
        generalize Q.length = ql at *
        generalize cw Q = cq at *
        generalize sN Q (bk Q m) = sb at *
        generalize bk Q m = bq at *
        rcases t2 with t1 | ⟨t1, t2⟩
        all_goals
          go_wp2_with (first
            | (refine wpList_load_row rfl 50 _ rfl g8 rfl 50 _ (0, 0) _ H8.out Try.underlying50 rfl size_part ?_)
            | (refine wpList_store_row rfl 50 _ _ rfl _ _ rfl rfl 50 _ H6'.out size_part rfl (one_part _ _) ?_))
          refine bodyPost_ret (results_part1 rfl _ _ g6 _ (sb : Int) rfl (heap_row _ H6'.out) rfl rfl) rfl ⟨?_, KR.out.setRow (.inr HGW.out.1) _⟩
          rw [HR.out.1, HR.out.2.1, HR.out.2.2]

end Go.Proofs.Ytlbnjclchmnomaa
