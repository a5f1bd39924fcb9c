/- The reference's Split. -/
import Derived.Test.YtliggpidkdiinaaPartCut
import Derived.Test.YtliggpidkdiinaaWin
namespace Go.Proofs.Ytliggpidkdiinaa
open Go.RowKit Bx

def SplitInv (vl vc : Value) (L : List Int) (C : List Nat) (wb w : World) (a : Act) (w' : World) : Prop :=
  a.defers = [] ∧ a.tmps.size = 33 ∧ a.tmps[0]? = some vl ∧ a.tmps[1]? = some vc ∧
  ∃ i : Nat, i ≤ C.length ∧ a.tmps[7]? = some (.int .i64 (i : Int)) ∧ a.tmps[6]? = some (.int .i64 ((C.take i).sum : Int)) ∧ ∃ (us : List Value) (u : Value), a.tmps[5]? = some u ∧ us.length = i ∧ w'.ownsRow w.heap.size 22 1 u i us ∧
    (∀ j, j < i → ∃ x, us[j]? = some x ∧ Sl wb x (ivs ((pcz L C).getD j []))) ∧ Kept Nix w w'

/-- Rows that are windows of what lay in wb; the slice of them is the call's own. -/
def SplitOf (L : List Int) (C : List Nat) (wb w : World) (u : Value) (w' : World) : Prop :=
  ∃ us : List Value, us.length = (pcz L C).length ∧ w'.ownsRow w.heap.size 22 1 u us.length us ∧ ∀ j, j < (pcz L C).length → ∃ x, us[j]? = some x ∧ Sl wb x (ivs ((pcz L C).getD j []))

theorem SplitOf.chs {L : List Int} {C : List Nat} {wb w w' : World} {u : Value} (h : SplitOf L C wb w u w') (hk : Kept Nix wb w') : Chs w' u (pcz L C) := by
  obtain ⟨us, h1, h2, h3⟩ := h
  refine ⟨us, sl_of_owns h2, h1, fun j hj => ?_⟩
  obtain ⟨x, hx, hs⟩ := h3 j hj
  exact ⟨x, hx, hs.nix hk⟩

theorem SplitOf.kept {L : List Int} {C : List Nat} {wb w w' w2 : World} {u : Value} {S : Nat → Prop} (h : SplitOf L C wb w u w') (hk : Kept S w' w2) (hS : ∀ k, w.heap.size ≤ k → ¬ S k) : SplitOf L C wb w u w2 := by
  obtain ⟨us, h1, h2, h3⟩ := h
  exact ⟨us, h1, hk.owns h2 (fun k hb hs => hS k (own_lt h2 hb).1 hs), h3⟩

set_option maxRecDepth 10000 in
set_option maxHeartbeats 2000000 in
theorem rsplit_at (L : List Int) (C : List Nat) (vl vc : Value) (wb w : World) (hL : Sl wb vl (ivs L)) (hC : Sl w vc (ivs (ni C))) (hs : C.sum ≤ L.length) (hl : L.length ≤ 1048576) (hcl : C.length ≤ 32768) :
    Calls Try.prog 35 #[vl, vc] w fun e w' => ∃ u, e = .returned u ∧ SplitOf L C wb w u w' ∧ Kept Nix w w' := by
  obtain ⟨ao, ca, rfl, hca, -⟩ := hL.ints
  obtain ⟨bo, cb, rfl, -⟩ := hC.ints
  rw [ni_length] at hC ⊢
  have HL := Lib.hid hL
  have HC := Lib.hid hC
  have HS := Lib.hid hs
  have HLL := Lib.hid hl
  have HCL := Lib.hid hcl
  have HCA := Lib.hid hca
  clear hL hC hs hl hcl hca
  obtain ⟨m, hm⟩ : ∃ m, C.length = m := ⟨_, rfl⟩
  have HM := Lib.hid hm
  rw [hm] at HC ⊢
  clear hm
  go_enter Try.func35, Try.ntmps35
  go_wp2
  refine wp_loop (SplitInv (.slice ao L.length ca) (.slice bo m cb) L C wb w) (fun a _ => m - (intOf (a.tmps.getD 7 undef)).toNat) ?_ ?_
  · exact ⟨rfl, rfl, rfl, rfl, 0, Nat.zero_le _, rfl, rfl, [], _, rfl, rfl, World.ownsRow_nil _ _ _ _, fun j hj => absurd hj (Nat.not_lt_zero _), Kept.refl _ _⟩
  · rintro ⟨tm, df⟩ w2 ⟨rfl, hs, e0, e1, i, hi, e7, e6, us, u, e5, hul, ho, hus, hk⟩
    simp only at hs e0 e1 e7 e6 e5
    rw [HM.out] at hi
    obtain ⟨f, hf, hg⟩ := fr_open hs
    have g0 := hg _ _ e0
    have g1 := hg _ _ e1
    have g7 := hg _ _ e7
    have g6 := hg _ _ e6
    have g5 := hg _ _ e5
    simp only [List.range, List.range.loop, List.map] at hf
    rw [g0, g1, g7, g6, g5] at hf
    clear g0 g1 g7 g6 g5 hg hs e0 e1 e7 e6 e5
    subst hf
    have HUS := Lib.hid hus
    have HUL := Lib.hid hul
    have HK := Lib.hid hk
    have HO := Lib.hid ho
    clear hus hul hk ho
    by_cases hlt : i < m
    · have hdd : decide (i < m) = true := decide_eq_true hlt
      have hi1 : (i : Int) < (m : Int) := by omega
      have hic : i < C.length := by rw [HM.out]; exact hlt
      obtain ⟨b1, o1, rfl, hc1⟩ := cell_kept HC.out i (by rw [ni_length]; exact hic)
      rw [ni_get] at hc1
      have x1 := hc1 _ HK.out
      have hsn := sum_next C i hic
      have hsl := sum_take_le C (i + 1)
      have hpg := pcz_get L C i hic
      have hzw : wrap64 (((C.take i).sum : Int) + (C.getD i 0 : Int)) = ((C.take (i + 1)).sum : Int) := by
        have := HS.out
        have := HLL.out
        rw [w64_in _ (by omega)]; omega
      have r1 := fun w => run_win_i w ao L.length ca (C.take i).sum (C.take (i + 1)).sum (by omega) (by have := HS.out; have := HCA.out; omega)
      have S2 := Lib.hid (sl_win HL.out (C.take i).sum ((C.take (i + 1)).sum - (C.take i).sum) (by have := HS.out; omega))
      rw [show (L.drop (C.take i).sum).take ((C.take (i + 1)).sum - (C.take i).sum) = (pcz L C).getD i [] by rw [hpg]; congr 1; omega] at S2
      generalize hgz1 : (C.take (i + 1)).sum = z1 at *
      have HZ1 := Lib.hid hgz1
      generalize hgvo : (if ca = (C.take i).sum then ao else ao.map (fun x => x.add (C.take i).sum)) = vo at *
      generalize hgvc : ca - (C.take i).sum = vcc at *
      generalize hgvn : z1 - (C.take i).sum = vn at *
      generalize hgz : (C.take i).sum = z0 at *
      generalize C.getD i 0 = c at *
      have M3 := Lib.hid (show i + 1 ≤ maxLen by have := HCL.out; simp only [maxLen]; omega)
      have M4 := Lib.hid (show (i + 1) * 24 ≤ 140737488355328 by have := HCL.out; omega)
      have O5 := Lib.hid (HO.out.alloc (.cells #[.slice vo vn vcc] 22))
      have HBS := Lib.hid (show w.heap.size ≤ (w2.alloc (.cells #[.slice vo vn vcc] 22)).heap.size from (HK.out.alloc _).size)
      have HI := Lib.hid hlt
      have X6 := Lib.hid (fun w' h => hc1 w' h)
      have HZW := Lib.hid hzw
      have HW := Lib.hid (show wrap64 ((i : Int) + 1) = ((i + 1 : Nat) : Int) by have := HCL.out; have := HM.out; rw [w64_in _ (by omega)]; omega)
      clear hc1 hlt hi hic hsn hsl hpg hgz1 hgvo hgvc hgvn hgz
      go_upto_region 7 with (
        refine wpList_app _ rfl _ _ 48 rfl w.heap.size 22 (.slice none 0 0) 1 24 Try.underlying48 info_ints rfl (by decide) _ _ _ rfl O5.out _ 1 1 [.slice vo vn vcc] rfl (src_one w2 _ _ rfl) M3.out M4.out HBS.out ?_
        intro v6 w6 o6 g6 n6; have k6 : Kept Nix w w6 := (HK.out.alloc _).grown g6 (fun kk hkk => .inr (O5.out.lt kk hkk).1); have K6 := Lib.hid k6; have O6 := Lib.hid o6; clear k6 o6 g6 n6)
      have x6 := X6.out w6 K6.out
      clear hzw x1 r1
      go_wp2
      rw [HW.out, HZW.out]
      refine ⟨⟨rfl, rfl, rfl, rfl, i + 1, by rw [HM.out]; exact HI.out, rfl, by rw [HZ1.out]; rfl, us ++ [.slice vo vn vcc], v6, rfl, by rw [List.length_append, HUL.out]; rfl, O6.out, fun j hj => ?_, K6.out⟩, nearer HI.out rfl⟩
      by_cases hji : j < i
      · obtain ⟨x, hx, hsx⟩ := HUS.out j hji
        exact ⟨x, by rw [List.getElem?_append_left (by rw [HUL.out]; exact hji)]; exact hx, hsx⟩
      · have hje : j = i := by omega
        subst hje
        exact ⟨_, by rw [← HUL.out]; simp, S2.out⟩
    · have hie : i = m := by omega
      subst hie
      have hdd : decide (i < i) = false := decide_eq_false hlt
      clear hlt hi
      go_wp2
      go_ret
      have hou : w2.ownsRow w.heap.size 22 1 u us.length us := by rw [HUL.out]; exact HO.out
      refine ⟨u, rfl, ⟨us, by rw [HUL.out, pcz_length, HM.out], hou, fun j hj => ?_⟩, HK.out⟩
      exact HUS.out j (by rw [pcz_length, HM.out] at hj; exact hj)

theorem rsplit_any (L : List Int) (C : List Nat) (vl vc : Value) (w : World) (hL : Sl w vl (ivs L)) (hC : Sl w vc (ivs (ni C))) (hs : C.sum ≤ L.length) (hl : L.length ≤ 1048576) (hcl : C.length ≤ 32768) :
    Calls Try.prog 35 #[vl, vc] w fun e w' => ∃ u, e = .returned u ∧ Chs w' u (pcz L C) ∧ Kept Nix w w' := by
  refine (rsplit_at L C vl vc w w hL hC hs hl hcl).mono ?_
  rintro e w' ⟨u, rfl, ho, hk⟩
  exact ⟨u, rfl, ho.chs hk, hk⟩

end Go.Proofs.Ytliggpidkdiinaa
