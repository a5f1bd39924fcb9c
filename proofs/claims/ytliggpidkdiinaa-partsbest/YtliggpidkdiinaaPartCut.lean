/- Package parts: cut, ks, finest, pairs. -/
import Derived.Test.YtliggpidkdiinaaPartCuts
namespace Go.Proofs.Ytliggpidkdiinaa
open Go.RowKit Bx

theorem made_one (v : Value) (n : Nat) : madeCells #[v] n = (List.replicate n v).toArray := by
  apply Array.ext
  · simp [size_madeCells]
  · intro i h1 h2
    simp [madeCells, Nat.mod_one]

/-- So many slices that are nil. -/
def nils (n : Nat) : List Value := List.replicate n (.slice none 0 0)

theorem make_rws (n : Nat) (h : n ≤ 1099511627776) (w : World) : (Instr.makeSlice 48 (.int .i64 (n : Int)) (.int .i64 (n : Int))).run Try.prog w = .ok (.slice (some ⟨w.heap.size, 0, none⟩) n n) (w.alloc (.cells (nils n).toArray 22)) := by
  unfold nils
  rw [← made_one]
  exact run_make_row' (P := Try.prog) 48 22 (.slice none 0 0) 24 Try.underlying48 info_ints rfl .i64 .i64 n (by omega) (by omega) w

theorem kept_set_new {w w' : World} (h : Kept Nix w w') {g i : Nat} (hg : w.heap.size ≤ g) (u : Value) : Kept Nix w (w'.setCell ⟨g, i, none⟩ u) := h.setCell (.inr hg) u

def CutInv (vc : Value) (g : Nat) (L : List Int) (C : List Nat) (w : World) (a : Act) (w' : World) : Prop :=
  a.defers = [] ∧ a.tmps.size = 29 ∧ a.tmps[5]? = some (.slice (some ⟨g, 0, none⟩) C.length C.length) ∧ a.tmps[11]? = some vc ∧ a.tmps[12]? = some (.int .i64 (C.length : Int)) ∧
  ∃ i : Nat, i ≤ C.length ∧ a.tmps[13]? = some (.int .i64 (i : Int)) ∧ ∃ (vr : Value) (us : List Value), a.tmps[0]? = some vr ∧ Sl w vr (ivs (L.drop (C.take i).sum)) ∧ us.length = C.length ∧ Hid (w'.heap[g]? = some (.cells us.toArray 22 (0, 0))) ∧
    (∀ j, j < i → ∃ u, us[j]? = some u ∧ Sl w u (ivs ((pcz L C).getD j []))) ∧ Kept Nix w w'

theorem sum_next (C : List Nat) (i : Nat) (h : i < C.length) : (C.take (i + 1)).sum = (C.take i).sum + C.getD i 0 := by
  rw [List.take_succ_eq_append_getElem h, List.sum_append]
  simp [List.getD, h]
theorem sum_take_le (C : List Nat) (i : Nat) : (C.take i).sum ≤ C.sum := by
  have h : C.sum = (C.take i).sum + (C.drop i).sum := by rw [← List.sum_append, List.take_append_drop]
  omega

theorem chs_heap {w : World} {g n : Nat} {us : List Value} {P : List (List Int)} (h : w.heap[g]? = some (.cells us.toArray 22 (0, 0))) (hl : us.length = n) (hP : P.length = n) (hn : n ≤ maxLen) (hu : ∀ j, j < n → ∃ u, us[j]? = some u ∧ Sl w u (ivs (P.getD j []))) : Chs w (.slice (some ⟨g, 0, none⟩) n n) P := by
  have hg := (Array.getElem?_eq_some_iff.1 h).1
  refine ⟨us, ⟨some ⟨g, 0, none⟩, n, by rw [hl], by omega, hn, fun h => by simp at h, fun _ => ⟨g, 0, rfl, hg, fun j u hu => ?_⟩⟩, by omega, fun i hi => hu i (by omega)⟩
  rw [cell_of h, Nat.zero_add, List.getElem?_toArray]
  exact hu

set_option maxRecDepth 10000 in
set_option maxHeartbeats 2000000 in
theorem pcut_any (L : List Int) (C : List Nat) (vl vc : Value) (w : World) (hL : Sl w vl (ivs L)) (hC : Sl w vc (ivs (ni C))) (hs : C.sum ≤ L.length) (hl : L.length ≤ 1048576) (hcl : C.length ≤ 32768) :
    Calls Try.prog 25 #[vl, vc] w fun e w' => ∃ u, e = .returned u ∧ Chs w' u (pcz L C) ∧ Kept Nix w w' := by
  obtain ⟨ao, ca, rfl, -⟩ := hL.ints
  obtain ⟨bo, cb, rfl, -⟩ := hC.ints
  rw [ni_length] at hC ⊢
  have hmk := make_rws C.length (by omega) w
  have h1 := heap_alloc_new w (.cells (nils C.length).toArray 22)
  have H1 := Lib.hid h1
  have K1 := Lib.hid (show Kept Nix w (w.alloc (.cells (nils C.length).toArray 22)) from (Kept.refl _ _).alloc _)
  have HL := Lib.hid hL
  have HC := Lib.hid hC
  have HS := Lib.hid hs
  have HLL := Lib.hid hl
  have HCL := Lib.hid hcl
  clear hL hC hs hl hcl h1
  obtain ⟨m, hm⟩ : ∃ m, C.length = m := ⟨_, rfl⟩
  have HM := Lib.hid hm
  rw [hm] at hmk H1 K1 HC ⊢
  go_enter Try.func25, Try.ntmps25
  go_upto_region 2 with fail
  clear hmk
  generalize w.alloc (.cells (nils m).toArray 22) = w1 at *
  obtain ⟨g, hg⟩ : ∃ g, w.heap.size = g := ⟨_, rfl⟩
  have HG := Lib.hid hg
  rw [hg] at H1 ⊢
  clear hm hg
  go_wp2
  refine wp_loop (CutInv (.slice bo m cb) g L C w) (fun a _ => m - (intOf (a.tmps.getD 13 undef)).toNat) ?_ ?_
  · rw [← HM.out]
    exact ⟨rfl, rfl, rfl, rfl, rfl, 0, Nat.zero_le _, rfl, _, nils C.length, rfl, HL.out, by simp [nils], Lib.hid (by rw [HM.out]; exact H1.out), fun j hj => absurd hj (Nat.not_lt_zero _), K1.out⟩
  · clear H1 K1
    rintro ⟨tm, df⟩ w2 ⟨rfl, hs, e5, e11, e12, i, hi, e13, vr, us, e0, sr, hul, hh, hus, hk⟩
    simp only at hs e5 e11 e12 e13 e0
    rw [HM.out] at e5 e12 hi hul
    obtain ⟨ro, rc, rfl, hrc, -⟩ := sr.ints
    obtain ⟨f, hf, hg⟩ := fr_open hs
    have g5 := hg _ _ e5
    have g11 := hg _ _ e11
    have g12 := hg _ _ e12
    have g13 := hg _ _ e13
    have g0 := hg _ _ e0
    simp only [List.range, List.range.loop, List.map] at hf
    rw [g5, g11, g12, g13, g0] at hf
    clear g5 g11 g12 g13 g0 hg hs e5 e11 e12 e13 e0
    subst hf
    have HH := Lib.hid hh.out
    have HUS := Lib.hid hus
    have HUL := Lib.hid hul
    have HK := Lib.hid hk
    have SR := Lib.hid sr
    clear hh hus hul hk sr
    by_cases hlt : i < m
    · have hdd : decide (i < m) = true := decide_eq_true hlt
      have hi1 : (i : Int) < (m : Int) := by omega
      have hic : i < C.length := by rw [HM.out]; exact hlt
      obtain ⟨b1, o1, rfl, hc1⟩ := cell_kept HC.out i (by rw [ni_length]; exact hic)
      have x1 := hc1 _ HK.out
      rw [ni_get] at x1
      have hsn := sum_next C i hic
      have hsl := sum_take_le C (i + 1)
      have hpg := pcz_get L C i hic
      have hdl : (L.drop (C.take i).sum).length = L.length - (C.take i).sum := by simp
      rw [hdl] at hrc SR ⊢
      have hcc : C.getD i 0 ≤ L.length - (C.take i).sum := by have := HS.out; omega
      have r1 := fun w => run_upto_i w ro (L.length - (C.take i).sum) rc (C.getD i 0) (by omega)
      have r2 := fun w => run_from_i w ro (L.length - (C.take i).sum) rc (C.getD i 0) hcc
      have S1 := Lib.hid (sl_take_i SR.out (C.getD i 0) hcc)
      have S2 := Lib.hid (sl_drop_i SR.out (C.getD i 0) hcc)
      rw [← hpg] at S1
      rw [List.drop_drop, ← hsn] at S2
      obtain ⟨V, hV⟩ : ∃ V, (Value.slice (if rc = C.getD i 0 then ro else ro.map (fun x => x.add (C.getD i 0))) (L.length - (C.take i).sum - C.getD i 0) (rc - C.getD i 0)) = V := ⟨_, rfl⟩
      rw [hV] at r2 S2
      have y0 : w2.drew.cell? ⟨g, i, none⟩ = some (us.getD i undef) := by rw [cell_of (w := w2.drew) HH.out, List.getElem?_toArray]; have := HUL.out; simp [List.getD, show i < us.length by omega]
      have z0 : w2.drew.frozen? ⟨g, i, none⟩ = false := frozen_of (w := w2.drew) HH.out
      have HI := Lib.hid hlt
      have HW := Lib.hid (show wrap64 ((i : Int) + 1) = ((i + 1 : Nat) : Int) by have := HCL.out; have := HM.out; rw [w64_in _ (by omega)]; omega)
      clear hc1 hlt hi hic hsn hsl hpg hdl hcc hrc hV SR
      generalize C.getD i 0 = c at *
      generalize L.length - (C.take i).sum = l at *
      generalize us.getD i undef = ui at *
      go_upto_region 5 with fail
      go_region_law fail
      all_goals
        have hh2 := heap_set (u := Value.slice ro c rc) (i := i) (w := w2.drew) HH.out
        rw [List.setIfInBounds_toArray] at hh2
        have H2 := Lib.hid hh2
        have K2 := Lib.hid (kept_set_new HK.out.drew (i := i) (Nat.le_of_eq HG.out) (Value.slice ro c rc))
        clear y0 z0 r1 r2 x1 hh2
        go_wp2
        rw [HW.out]
        refine ⟨⟨rfl, rfl, by rw [HM.out]; rfl, rfl, by rw [HM.out]; rfl, i + 1, by rw [HM.out]; exact HI.out, rfl, V, us.set i (.slice ro c rc), rfl, S2.out, by rw [List.length_set, HM.out]; exact HUL.out, H2, fun j hj => ?_, K2.out⟩, nearer HI.out rfl⟩
        by_cases hji : j = i
        · subst hji
          exact ⟨_, List.getElem?_set_self (by rw [HUL.out]; exact HI.out), S1.out⟩
        · rw [List.getElem?_set_ne (Ne.symm hji)]
          exact HUS.out j (by omega)
    · have hie : i = m := by omega
      subst hie
      have hdd : decide (i < i) = false := decide_eq_false hlt
      clear hlt hi
      go_wp2
      go_ret
      refine ⟨_, rfl, chs_heap HH.out HUL.out (by rw [pcz_length, HM.out]) (by have := HCL.out; have := HM.out; simp only [maxLen]; omega) (fun j hj => ?_), HK.out⟩
      obtain ⟨u, h1, h2⟩ := HUS.out j hj
      exact ⟨u, h1, h2.nix HK.out⟩

end Go.Proofs.Ytliggpidkdiinaa
