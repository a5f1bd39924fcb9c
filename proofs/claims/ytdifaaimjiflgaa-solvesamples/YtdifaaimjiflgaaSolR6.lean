/- The reference of layer 10: pieces of Solve: is any factor too far? -/
import Derived.Test.YtdifaaimjiflgaaSolR4
namespace Go.Proofs.Ytdifaaimjiflgaa
open Go.RowKit Bx

noncomputable def rsolL6 : Code := (loopAt 32 (Try.f13.body.getD .skip)).getD .skip

def R6Inv (order e q : Int) (m : Nat) (vx va vo : Value) (L : List Int) (w : World) (a : Act) (w' : World) : Prop :=
  RS order e m vx vo a ∧ a.tmps[9]? = some va ∧ a.tmps[14]? = some (.int .i64 q) ∧ ∃ i j : Nat, j = i + 1 ∧ i ≤ m ∧ a.tmps[17]? = some (.int .i64 (j : Int)) ∧ within (L.take i) = true ∧ w' = w

theorem r6_nums (m i : Nat) (hn : m ≤ 32) (hi : i < m) : ∃ j : Nat, j = i + 1 ∧ decide ((j : Int) ≤ (m : Int)) = true ∧ decide (j ≤ m) = true ∧ wrap64 ((j : Int) + 1) = ((j + 1 : Nat) : Int) ∧ j < m + 1 :=
  ⟨i + 1, rfl, decide_eq_true (by omega), decide_eq_true (by omega), by unfold wrap64; omega, by omega⟩

set_option maxRecDepth 10000 in
set_option maxHeartbeats 4000000 in
theorem rsol_l6 (order e q : Int) (m : Nat) (vx va vo : Value) (L : List Int) (a : Act) (w : World) (Q : Exit → Act → World → Prop) (hrs : RS order e m vx vo a) (h9 : a.tmps[9]? = some va) (h14 : a.tmps[14]? = some (.int .i64 q)) (h17 : a.tmps[17]? = some (.int .i64 1))
    (ha : Sl w va (ivs (0 :: L))) (hL : L.length = m) (hm32 : m ≤ 32)
    (hQ : ∀ a', RS order e m vx vo a' → a'.tmps[9]? = some va → a'.tmps[14]? = some (.int .i64 q) → within L = true → Q (.exit 10) a' w)
    (hR : ∀ a', RS order e m vx vo a' → a'.tmps[4]? = some vo → within L = false → Q .ret a' w) : Code.wp Try.prog rsolL6 Q a w := by
  obtain ⟨ao, ac, rfl, -, -⟩ := ha.ints
  have SA := Lib.hid ha
  have HL := Lib.hid hL
  have HM32 := Lib.hid hm32
  have HQ := Lib.hid hQ
  have HR := Lib.hid hR
  clear ha hL hm32 hQ hR
  generalize haa : (0 :: L).length = la at *
  have HLA := Lib.hid (show la = m + 1 by rw [← haa, List.length_cons, HL.out])
  clear haa
  refine wp_loop (R6Inv order e q m vx (.slice ao la ac) vo L w) (fun a _ => (m + 1) - (intOf (a.tmps.getD 17 undef)).toNat) ?_ ?_
  · exact ⟨hrs, h9, h14, 0, 1, rfl, Nat.zero_le _, h17, rfl, rfl⟩
  · clear hrs h9 h14 h17
    rintro ⟨tm, df⟩ w1 ⟨⟨rfl, hs, e1, e6, e8, e10, e11⟩, e9, e14, i, j0, hj0, hi, e17, hwi, rfl⟩
    simp only at hs e1 e6 e8 e10 e11 e9 e14 e17
    obtain ⟨f, hf, hg⟩ := fr_open hs
    have g1 := hg _ _ e1
    have g6 := hg _ _ e6
    have g8 := hg _ _ e8
    have g10 := hg _ _ e10
    have g11 := hg _ _ e11
    have g9 := hg _ _ e9
    have g14 := hg _ _ e14
    have g17 := hg _ _ e17
    simp only [List.range, List.range.loop, List.map] at hf
    rw [g1, g6, g8, g10, g11, g9, g14, g17] at hf
    clear g1 g6 g8 g10 g11 g9 g14 g17 hg hs e1 e6 e8 e10 e11 e9 e14 e17
    subst hf
    have HWI := Lib.hid hwi
    clear hwi
    by_cases hlt : i < m
    · obtain ⟨j, hj, t1, t2, t3, t4⟩ := r6_nums m i HM32.out hlt
      have hjj : j0 = j := by omega
      subst hjj
      obtain ⟨b1, o1, rfl, hc1⟩ := cell_kept SA.out j0 (by rw [List.length_cons, HL.out]; exact t4)
      have c1 := hc1 _ (Kept.refl _ w1)
      rw [hj, List.getD_cons_succ, ← hj] at c1
      have i1 : (j0 : Int) < (la : Int) := by have := HLA.out; omega
      have i2 : j0 < la := by have := HLA.out; omega
      have HWT := Lib.hid (within_take L i (by rw [HL.out]; exact hlt))
      have HWO := Lib.hid (fun hf => within_out L i (by rw [HL.out]; exact hlt) hf)
      have T3 := Lib.hid t3
      have HI := Lib.hid hlt
      have HJ := Lib.hid hj
      have HT4 := Lib.hid t4
      clear hlt hi hj t3 t4 hc1 hj0
      generalize L.getD i 0 = li at *
      by_cases hb1 : 67108864 < li
      · have d1 : decide (67108864 < li) = true := decide_eq_true hb1
        have HW := Lib.hid (HWO.out (by rw [d1, Bool.or_true]))
        clear hb1
        conv => arg 2; whnf
        go_wp2
        refine HR.out _ ?_ ?_ HW.out
        · exact ⟨rfl, rfl, rfl, rfl, rfl, rfl, rfl⟩
        · rfl
      have d1 : decide (67108864 < li) = false := decide_eq_false hb1
      by_cases hb2 : li < -67108864
      · have d2 : decide (li < -67108864) = true := decide_eq_true hb2
        have HW := Lib.hid (HWO.out (by rw [d2]; rfl))
        clear hb1 hb2
        conv => arg 2; whnf
        go_wp2
        refine HR.out _ ?_ ?_ HW.out
        · exact ⟨rfl, rfl, rfl, rfl, rfl, rfl, rfl⟩
        · rfl
      have d2 : decide (li < -67108864) = false := decide_eq_false hb2
      clear hb1 hb2
      conv => arg 2; whnf
      go_wp2
      rw [T3.out]
      refine ⟨⟨⟨rfl, rfl, rfl, rfl, rfl, rfl, rfl⟩, rfl, rfl, i + 1, j0 + 1, by rw [HJ.out], HI.out, rfl, ?_, rfl⟩, nearer HT4.out rfl⟩
      rw [HWT.out, HWI.out, d1, d2]
      rfl
    · have hie : i = m := by omega
      have hd : decide ((j0 : Int) ≤ (m : Int)) = false := decide_eq_false (by omega)
      have hd' : decide (j0 ≤ m) = false := decide_eq_false (by omega)
      have HW : Hid (within L = true) := Lib.hid (by have h := HWI.out; rwa [hie, ← HL.out, List.take_length] at h)
      clear hlt hi hj0 hie
      conv => arg 2; whnf
      go_wp2
      refine HQ.out _ ?_ ?_ ?_ HW.out
      · exact ⟨rfl, rfl, rfl, rfl, rfl, rfl, rfl⟩
      · rfl
      · rfl

end Go.Proofs.Ytdifaaimjiflgaa
