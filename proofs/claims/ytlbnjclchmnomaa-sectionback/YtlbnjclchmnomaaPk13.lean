/- Package parts: Cuts. Package parts: cut, ks, finest, pairs. -/
import Derived.Test.YtlbnjclchmnomaaPk12

namespace Go.Proofs.Ytlbnjclchmnomaa
open Go.RowKit Bx

def CutsPost (n : Nat) (k o : Int) (w : World) (e : Ending) (w' : World) : Prop :=
  ∃ u, e = .returned u ∧ w'.ownsRow w.heap.size 3 1 u (ctI n k o).length (ivs (ni (ctI n k o))) ∧ Kept Nix w w'

theorem cuts_none {n : Nat} {k o : Int} (h : ctI n k o = []) (w : World) : CutsPost n k o w (.returned (.slice none 0 0)) w :=
  ⟨_, rfl, by rw [h]; exact World.ownsRow_nil _ _ _ _, Kept.refl _ _⟩

theorem cuts_far {n : Nat} {k o : Int} (h : k < 0 ∨ o < 0 ∨ 15 < o) : ctI n k o = [] := by
  unfold ctI
  split
  · apply cts_none
    unfold cutOk
    rw [decide_eq_false (by omega)]
    rfl
  · rfl

theorem cuts_test {k o : Int} (h : k < 0 ∨ o < 0 ∨ 15 < o) : decide (k < 0) = true ∨ (decide (k < 0) = false ∧ decide (o < 0) = true) ∨ (decide (k < 0) = false ∧ decide (o < 0) = false ∧ decide (15 < o) = true) := by
  simp only [decide_eq_true_eq, decide_eq_false_iff_not]
  omega

structure CutNums (n K O B S Q R : Nat) (P : Int) : Prop where
  e3 : IntKind.u64.wrap ((n : Int) + (K : Int)) = (B : Int)
  e4 : (B : Int) / 2 ^ O = (S : Int)
  e5 : IntKind.u64.wrap ((S : Int) * 2 ^ O) = (Q : Int)
  e6 : wrap64 (2 ^ O) = P
  e7 : wrap64 (S : Int) = (S : Int)
  e8 : K < S → IntKind.u64.wrap ((S : Int) - (K : Int)) = (R : Int)
  e9 : wrap64 (R : Int) = (R : Int)
  hP : ((2 ^ O : Nat) : Int) = P
  ok : cutOk n K O = (decide (Q = B) && decide (K < S))
  ct : cutOk n K O = true → cts n K O = R :: List.replicate (2 ^ O - 1) S

theorem sub_int {S K R : Nat} (h : S - K = R) (h2 : K < S) : (S : Int) - (K : Int) = (R : Int) := by omega
theorem small_i (n : Nat) (h : n ≤ 9223372036854775807) : wrap64 (n : Int) = (n : Int) := by unfold wrap64; omega

theorem cut_nums (n K O : Nat) (hn : n ≤ 1048576) (hk : K ≤ 1099511627776) (hO : O ≤ 15) : ∃ (B S Q R : Nat) (P : Int), CutNums n K O B S Q R P := by
  have hQB : (n + K) / 2 ^ O * 2 ^ O ≤ n + K := Nat.div_mul_le_self _ _
  have hSB : (n + K) / 2 ^ O ≤ n + K := Nat.div_le_self _ _
  have hdm := Nat.div_add_mod (n + K) (2 ^ O)
  have hp : 2 ^ O ≤ 32768 := Nat.pow_le_pow_right (n := 2) (by decide) hO
  refine ⟨n + K, (n + K) / 2 ^ O, (n + K) / 2 ^ O * 2 ^ O, (n + K) / 2 ^ O - K, ((2 ^ O : Nat) : Int), ?_, by simp, ?_, ?_, ?_, ?_, ?_, rfl, ?_, ?_⟩
  · rw [show (n : Int) + (K : Int) = ((n + K : Nat) : Int) by omega]; exact u64_small _ (by omega)
  · rw [show (((n + K) / 2 ^ O : Nat) : Int) * 2 ^ O = (((n + K) / 2 ^ O * 2 ^ O : Nat) : Int) by simp]
    exact u64_small _ (by omega)
  · rw [show (2 : Int) ^ O = ((2 ^ O : Nat) : Int) by simp]
    exact small_i _ (by omega)
  · exact small_i _ (by omega)
  · intro h
    rw [sub_int rfl h]
    exact u64_small _ (by omega)
  · exact small_i _ (by omega)
  · unfold cutOk
    rw [decide_eq_true hO, Bool.true_and]
    have : (n + K) % 2 ^ O = 0 ↔ (n + K) / 2 ^ O * 2 ^ O = n + K := by rw [Nat.mul_comm] at hdm; omega
    rw [decide_eq_decide.2 this]
  · intro h
    unfold cts
    rw [if_pos h]

theorem owns_heap {w : World} {base g n : Nat} {L : List Int} (h : w.heap[g]? = some (.cells (ivs L).toArray 3 (0, 0))) (hb : base ≤ g) (hl : L.length = n) (hn : n ≤ maxLen) : w.ownsRow base 3 1 (.slice (some ⟨g, 0, none⟩) n n) n (ivs L) :=
  ⟨by rw [ivs_length, hl, Nat.mul_one], .inr ⟨g, n, _, rfl, hb, h, Nat.le_refl _, hn, by simp [ivs, hl], by rw [Nat.mul_one, List.take_of_length_le (by simp [ivs, hl])]⟩⟩

set_option maxRecDepth 10000 in
set_option maxHeartbeats 1000000 in
theorem pcuts_any (n : Nat) (k o : Int) (w : World) (hn : n ≤ 1048576) (hk : k ≤ 1099511627776) : Calls Try.prog 23 #[.int .i64 (n : Int), .int .i64 k, .int .i64 o] w (CutsPost n k o w) := by
  have tn : decide ((n : Int) < 0) = false := decide_eq_false (by omega)
  by_cases hf : k < 0 ∨ o < 0 ∨ 15 < o
  · have HP := Lib.hid (cuts_none (cuts_far (n := n) hf) w)
    rcases cuts_test hf with t1 | ⟨t1, t2⟩ | ⟨t1, t2, t3⟩
    all_goals
      clear hf hn hk
      go_enter Try.func23, Try.ntmps23
      go_wp2
      go_ret
      exact HP.out
  · obtain ⟨K, rfl⟩ : ∃ K : Nat, k = (K : Int) := ⟨k.toNat, by omega⟩
    obtain ⟨O, rfl⟩ : ∃ O : Nat, o = (O : Int) := ⟨o.toNat, by omega⟩
    have hO : O ≤ 15 := by omega
    have t1 : decide ((K : Int) < 0) = false := decide_eq_false (by omega)
    have t2 : decide ((O : Int) < 0) = false := decide_eq_false (by omega)
    have t3 : decide (15 < (O : Int)) = false := decide_eq_false (by omega)
    have e1 := u64_small n (by omega)
    have e2 := u64_small K (by omega)
    have e0 : min O 64 = O := by omega
    obtain ⟨B, S, Q, R, P, hN⟩ := cut_nums n K O hn (by omega) hO
    have e3 := hN.e3
    have e4 := hN.e4
    have e5 := hN.e5
    have HN := Lib.hid hN
    have HO := Lib.hid hO
    clear hf hk hn hN
    by_cases hq : Q = B ∧ K < S
    · have t4 : ((Q : Int) != (B : Int)) = false := by simp [hq.1]
      have t5 : decide (S ≤ K) = false := decide_eq_false (by omega)
      have OK := Lib.hid (show cutOk n K O = true by rw [HN.out.ok, decide_eq_true hq.1, decide_eq_true hq.2]; rfl)
      have e6 := HN.out.e6
      have e7 := HN.out.e7
      have e8 := HN.out.e8 hq.2
      have e9 := HN.out.e9
      have RP := Lib.hid (rep_any (S : Int) (.slice (some ⟨w.heap.size, 0, none⟩) 1 1) O hO (w.alloc (.cells #[.int .i64 (S : Int)] 3)) (sl_alloc w (ivs [(S : Int)]) 3 1 rfl (by decide)))
      rw [HN.out.hP] at RP
      have HP1 := Lib.hid (Nat.two_pow_pos O)
      clear hO hq
      generalize hpp : 2 ^ O = p at *
      have HPP := Lib.hid hpp
      clear hpp
      go_enter Try.func23, Try.ntmps23
      go_upto_region 8 with (go_at_call 43; refine RP.out.mono ?_; rintro e w2 ⟨g, rfl, hg1, hg2, k2⟩; have HG1 := Lib.hid hg1; have HG2 := Lib.hid hg2; have K2 := Lib.hid k2; clear hg1 hg2 k2 RP)
      have hp0 : 0 < p := HP1.out
      have y0 : w2.cell? ⟨g, 0, none⟩ = some (.int .i64 (S : Int)) := by
        rw [cell_of HG2.out, List.getElem?_toArray, ivs_get _ _ (by simpa using hp0)]
        congr 2
        simp [List.getD, hp0]
      have z0 := frozen_of (i := 0) HG2.out
      go_wp2
      go_ret
      have hh : (w2.setCell ⟨g, 0, none⟩ (.int .i64 (R : Int))).heap[g]? = some (.cells (ivs (ni (R :: List.replicate (p - 1) S))).toArray 3 (0, 0)) := by
        rw [heap_set HG2.out]
        congr 2
        obtain ⟨q, rfl⟩ : ∃ q, p = q + 1 := ⟨p - 1, by omega⟩
        simp [ivs, ni, List.replicate_succ]
      refine ⟨_, rfl, ?_, (nix_trans ((Kept.refl _ w).alloc _) K2.out).setCell (.inr (by have := HG1.out; simp at this; show w.heap.size ≤ g; omega)) _⟩
      rw [ctI_nat, HN.out.ct OK.out, HPP.out]
      have HPM := Lib.hid (show p ≤ maxLen by rw [← HPP.out]; have := Nat.pow_le_pow_right (n := 2) (by decide) HO.out; simp only [maxLen]; omega)
      have hlen : (ni (R :: List.replicate (p - 1) S)).length = p := by rw [ni_length]; simp; omega
      rw [show (R :: List.replicate (p - 1) S).length = p by simp; omega]
      exact owns_heap hh (by have := HG1.out; simp at this; omega) hlen HPM.out
    · have HF := Lib.hid (cuts_none (n := n) (k := (K : Int)) (o := (O : Int)) (by
        rw [ctI_nat]
        apply cts_none
        rw [HN.out.ok]
        simp only [Bool.and_eq_false_iff, decide_eq_false_iff_not]
        omega) w)
      have ht : ((Q : Int) != (B : Int)) = true ∨ (((Q : Int) != (B : Int)) = false ∧ decide (S ≤ K) = true) := by
        by_cases h1 : Q = B
        · right
          exact ⟨by simp [h1], decide_eq_true (by omega)⟩
        · left
          exact bne_iff_ne.2 (by omega)
      clear hq hO
      rcases ht with t4 | ⟨t4, t5⟩
      all_goals
        go_enter Try.func23, Try.ntmps23
        go_upto_if 42 with fail
        go_wp2
        go_ret
        exact HF.out

end Go.Proofs.Ytlbnjclchmnomaa

namespace Go.Proofs.Ytlbnjclchmnomaa
open Go.RowKit Bx

theorem made_one (v : Value) (n : Nat) : madeCells #[v] n = (List.replicate n v).toArray := by
  apply Array.ext
  · simp [size_madeCells]
  · intro i h1 h2
    simp [madeCells, Nat.mod_one]

/-- So many slices that are nil. -/
def nils (n : Nat) : List Value := List.replicate n (.slice none 0 0)

theorem make_rws (n : Nat) (h : n ≤ 1099511627776) (w : World) : (Instr.makeSlice 53 (.int .i64 (n : Int)) (.int .i64 (n : Int))).run Try.prog w = .ok (.slice (some ⟨w.heap.size, 0, none⟩) n n) (w.alloc (.cells (nils n).toArray 22)) := by
  unfold nils
  rw [← made_one]
  exact run_make_row' (P := Try.prog) 53 22 (.slice none 0 0) 24 Try.underlying53 info_ints rfl .i64 .i64 n (by omega) (by omega) w

theorem kept_set_new {w w' : World} (h : Kept Nix w w') {g i : Nat} (hg : w.heap.size ≤ g) (u : Value) : Kept Nix w (w'.setCell ⟨g, i, none⟩ u) := h.setCell (.inr hg) u

def CutInv (vc : Value) (g : Nat) (L : List Int) (C : List Nat) (w : World) (a : Act) (w' : World) : Prop :=
  a.defers = [] ∧ a.tmps.size = 29 ∧ a.tmps[5]? = some (.slice (some ⟨g, 0, none⟩) C.length C.length) ∧ a.tmps[11]? = some vc ∧ a.tmps[12]? = some (.int .i64 (C.length : Int)) ∧
  ∃ i : Nat, i ≤ C.length ∧ a.tmps[13]? = some (.int .i64 (i : Int)) ∧ ∃ (vr : Value) (us : List Value), a.tmps[0]? = some vr ∧ Sl w vr (ivs (L.drop (C.take i).sum)) ∧ us.length = C.length ∧ Hid (w'.heap[g]? = some (.cells us.toArray 22 (0, 0))) ∧
    (∀ j, j < i → ∃ u, us[j]? = some u ∧ Sl w u (ivs ((pcz L C).getD j []))) ∧ Kept Nix w w'

theorem sum_next (C : List Nat) (i : Nat) (h : i < C.length) : (C.take (i + 1)).sum = (C.take i).sum + C.getD i 0 := by
  rw [List.take_succ_eq_append_getElem h, List.sum_append]
  simp [List.getD, h]
theorem sum_take_le (C : List Nat) (i : Nat) : (C.take i).sum ≤ C.sum := by
  have h : C.sum = (C.take i).sum + (C.drop i).sum := by rw [← List.sum_append, List.take_append_drop]
  omega

theorem chs_heap {w : World} {g n : Nat} {us : List Value} {P : List (List Int)} (h : w.heap[g]? = some (.cells us.toArray 22 (0, 0))) (hl : us.length = n) (hP : P.length = n) (hn : n ≤ maxLen) (hu : ∀ j, j < n → ∃ u, us[j]? = some u ∧ Sl w u (ivs (P.getD j []))) : Chs w (.slice (some ⟨g, 0, none⟩) n n) P := by
  have hg := (Array.getElem?_eq_some_iff.1 h).1
  refine ⟨us, ⟨some ⟨g, 0, none⟩, n, by rw [hl], by omega, hn, fun h => by simp at h, fun _ => ⟨g, 0, rfl, hg, fun j u hu => ?_⟩⟩, by omega, fun i hi => hu i (by omega)⟩
  rw [cell_of h, Nat.zero_add, List.getElem?_toArray]
  exact hu

set_option maxRecDepth 10000 in
set_option maxHeartbeats 2000000 in
theorem pcut_any (L : List Int) (C : List Nat) (vl vc : Value) (w : World) (hL : Sl w vl (ivs L)) (hC : Sl w vc (ivs (ni C))) (hs : C.sum ≤ L.length) (hl : L.length ≤ 1048576) (hcl : C.length ≤ 32768) :
    Calls Try.prog 28 #[vl, vc] w fun e w' => ∃ u, e = .returned u ∧ Chs w' u (pcz L C) ∧ Kept Nix w w' := by
  obtain ⟨ao, ca, rfl, -⟩ := hL.ints
  obtain ⟨bo, cb, rfl, -⟩ := hC.ints
  rw [ni_length] at hC ⊢
  have hmk := make_rws C.length (by omega) w
  have h1 := heap_alloc_new w (.cells (nils C.length).toArray 22)
  have H1 := Lib.hid h1
  have K1 := Lib.hid (show Kept Nix w (w.alloc (.cells (nils C.length).toArray 22)) from (Kept.refl _ _).alloc _)
  have HL := Lib.hid hL
  have HC := Lib.hid hC
  have HS := Lib.hid hs
  have HLL := Lib.hid hl
  have HCL := Lib.hid hcl
  clear hL hC hs hl hcl h1
  obtain ⟨m, hm⟩ : ∃ m, C.length = m := ⟨_, rfl⟩
  have HM := Lib.hid hm
  rw [hm] at hmk H1 K1 HC ⊢
  go_enter Try.func28, Try.ntmps28
  go_upto_region 2 with fail
  clear hmk
  generalize w.alloc (.cells (nils m).toArray 22) = w1 at *
  obtain ⟨g, hg⟩ : ∃ g, w.heap.size = g := ⟨_, rfl⟩
  have HG := Lib.hid hg
  rw [hg] at H1 ⊢
  clear hm hg
  go_wp2
  refine wp_loop (CutInv (.slice bo m cb) g L C w) (fun a _ => m - (intOf (a.tmps.getD 13 undef)).toNat) ?_ ?_
  · rw [← HM.out]
    exact ⟨rfl, rfl, rfl, rfl, rfl, 0, Nat.zero_le _, rfl, _, nils C.length, rfl, HL.out, by simp [nils], Lib.hid (by rw [HM.out]; exact H1.out), fun j hj => absurd hj (Nat.not_lt_zero _), K1.out⟩
  · clear H1 K1
    rintro ⟨tm, df⟩ w2 ⟨rfl, hs, e5, e11, e12, i, hi, e13, vr, us, e0, sr, hul, hh, hus, hk⟩
    simp only at hs e5 e11 e12 e13 e0
    rw [HM.out] at e5 e12 hi hul
    obtain ⟨ro, rc, rfl, hrc, -⟩ := sr.ints
    obtain ⟨f, hf, hg⟩ := fr_open hs
    have g5 := hg _ _ e5
    have g11 := hg _ _ e11
    have g12 := hg _ _ e12
    have g13 := hg _ _ e13
    have g0 := hg _ _ e0
    simp only [List.range, List.range.loop, List.map] at hf
    rw [g5, g11, g12, g13, g0] at hf
    clear g5 g11 g12 g13 g0 hg hs e5 e11 e12 e13 e0
    subst hf
    have HH := Lib.hid hh.out
    have HUS := Lib.hid hus
    have HUL := Lib.hid hul
    have HK := Lib.hid hk
    have SR := Lib.hid sr
    clear hh hus hul hk sr
    by_cases hlt : i < m
    · have hdd : decide (i < m) = true := decide_eq_true hlt
      have hi1 : (i : Int) < (m : Int) := by omega
      have hic : i < C.length := by rw [HM.out]; exact hlt
      obtain ⟨b1, o1, rfl, hc1⟩ := cell_kept HC.out i (by rw [ni_length]; exact hic)
      have x1 := hc1 _ HK.out
      rw [ni_get] at x1
      have hsn := sum_next C i hic
      have hsl := sum_take_le C (i + 1)
      have hpg := pcz_get L C i hic
      have hdl : (L.drop (C.take i).sum).length = L.length - (C.take i).sum := by simp
      rw [hdl] at hrc SR ⊢
      have hcc : C.getD i 0 ≤ L.length - (C.take i).sum := by have := HS.out; omega
      have r1 := fun w => run_upto_i w ro (L.length - (C.take i).sum) rc (C.getD i 0) (by omega)
      have r2 := fun w => run_from_i w ro (L.length - (C.take i).sum) rc (C.getD i 0) hcc
      have S1 := Lib.hid (sl_take_i SR.out (C.getD i 0) hcc)
      have S2 := Lib.hid (sl_drop_i SR.out (C.getD i 0) hcc)
      rw [← hpg] at S1
      rw [List.drop_drop, ← hsn] at S2
      obtain ⟨V, hV⟩ : ∃ V, (Value.slice (if rc = C.getD i 0 then ro else ro.map (fun x => x.add (C.getD i 0))) (L.length - (C.take i).sum - C.getD i 0) (rc - C.getD i 0)) = V := ⟨_, rfl⟩
      rw [hV] at r2 S2
      have y0 : w2.drew.cell? ⟨g, i, none⟩ = some (us.getD i undef) := by rw [cell_of (w := w2.drew) HH.out, List.getElem?_toArray]; have := HUL.out; simp [List.getD, show i < us.length by omega]
      have z0 : w2.drew.frozen? ⟨g, i, none⟩ = false := frozen_of (w := w2.drew) HH.out
      have HI := Lib.hid hlt
      have HW := Lib.hid (show wrap64 ((i : Int) + 1) = ((i + 1 : Nat) : Int) by have := HCL.out; have := HM.out; rw [w64_in _ (by omega)]; omega)
      clear hc1 hlt hi hic hsn hsl hpg hdl hcc hrc hV SR
      generalize C.getD i 0 = c at *
      generalize L.length - (C.take i).sum = l at *
      generalize us.getD i undef = ui at *
      go_upto_region 5 with fail
      go_region_law fail
      all_goals
        have hh2 := heap_set (u := Value.slice ro c rc) (i := i) (w := w2.drew) HH.out
        rw [List.setIfInBounds_toArray] at hh2
        have H2 := Lib.hid hh2
        have K2 := Lib.hid (kept_set_new HK.out.drew (i := i) (Nat.le_of_eq HG.out) (Value.slice ro c rc))
        clear y0 z0 r1 r2 x1 hh2
        go_wp2
        rw [HW.out]
        refine ⟨⟨rfl, rfl, by rw [HM.out]; rfl, rfl, by rw [HM.out]; rfl, i + 1, by rw [HM.out]; exact HI.out, rfl, V, us.set i (.slice ro c rc), rfl, S2.out, by rw [List.length_set, HM.out]; exact HUL.out, H2, fun j hj => ?_, K2.out⟩, nearer HI.out rfl⟩
        by_cases hji : j = i
        · subst hji
          exact ⟨_, List.getElem?_set_self (by rw [HUL.out]; exact HI.out), S1.out⟩
        · rw [List.getElem?_set_ne (Ne.symm hji)]
          exact HUS.out j (by omega)
    · have hie : i = m := by omega
      subst hie
      have hdd : decide (i < i) = false := decide_eq_false hlt
      clear hlt hi
      go_wp2
      go_ret
      refine ⟨_, rfl, chs_heap HH.out HUL.out (by rw [pcz_length, HM.out]) (by have := HCL.out; have := HM.out; simp only [maxLen]; omega) (fun j hj => ?_), HK.out⟩
      obtain ⟨u, h1, h2⟩ := HUS.out j hj
      exact ⟨u, h1, h2.nix HK.out⟩

end Go.Proofs.Ytlbnjclchmnomaa
