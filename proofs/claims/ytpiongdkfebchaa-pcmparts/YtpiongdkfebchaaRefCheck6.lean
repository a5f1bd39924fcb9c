/- The reference of layer 6: Check. -/
import Derived.Test.YtpiongdkfebchaaRefPcm
import Derived.Test.YtpiongdkfebchaaPcmCheck
namespace Go.Proofs.Ytpiongdkfebchaa
open Go.RowKit Bx

theorem range_rows {L : List (List Int)} {d : Int} (h : ∀ j, j < L.length → ∀ k, k < (L.getD j []).length → inD ((L.getD j []).getD k 0) d = true) : rangeB L d = true := by
  unfold rangeB
  rw [List.all_eq_true]
  intro c hc
  obtain ⟨j, hj, rfl⟩ := List.getElem_of_mem hc
  rw [List.all_eq_true]
  intro n hn
  obtain ⟨i, hi, rfl⟩ := List.getElem_of_mem hn
  have hg : L.getD j [] = L[j] := by simp [List.getD, hj]
  have h1 := h j hj i (by rw [hg]; exact hi)
  rw [hg] at h1
  simpa [List.getD, hi] using h1

theorem unrange_row {L : List (List Int)} {d : Int} {j k : Nat} (hj : j < L.length) (hk : k < (L.getD j []).length) (h : inD ((L.getD j []).getD k 0) d = false) : rangeB L d = false := by
  unfold rangeB
  rw [List.all_eq_false]
  refine ⟨L[j], List.getElem_mem hj, ?_⟩
  have hg : L.getD j [] = L[j] := by simp [List.getD, hj]
  rw [hg] at h hk
  intro hall
  rw [List.all_eq_true] at hall
  have := hall _ (List.getElem_mem hk)
  simp only [List.getD, List.getElem?_eq_getElem hk, Option.getD_some] at h
  rw [h] at this
  cases this

def RC1 (p : Nat) (L : List (List Int)) (w : World) (a : Act) (w' : World) : Prop :=
  a.defers = [] ∧ a.tmps.size = 68 ∧ a.tmps[1]? = some (.pointer (some ⟨p, 0, none⟩)) ∧ ∃ i : Nat, i ≤ L.length ∧ a.tmps[4]? = some (.int .i64 (i : Int)) ∧ (∀ j, j < i → (L.getD j []).length = manyN L) ∧ ∃ n, w' = w.drewN n

def RC2 (p : Nat) (L : List (List Int)) (d : Int) (w : World) (a : Act) (w' : World) : Prop :=
  a.defers = [] ∧ a.tmps.size = 68 ∧ a.tmps[1]? = some (.pointer (some ⟨p, 0, none⟩)) ∧ ∃ i : Nat, i ≤ L.length ∧ a.tmps[5]? = some (.int .i64 (i : Int)) ∧ (∀ j, j < i → ∀ k, k < (L.getD j []).length → inD ((L.getD j []).getD k 0) d = true) ∧ ∃ n, w' = w.drewN n

def RC3 (p : Nat) (L : List (List Int)) (d : Int) (i : Nat) (w : World) (a : Act) (w' : World) : Prop :=
  a.defers = [] ∧ a.tmps.size = 68 ∧ a.tmps[1]? = some (.pointer (some ⟨p, 0, none⟩)) ∧ a.tmps[5]? = some (.int .i64 (i : Int)) ∧ ∃ k : Nat, k ≤ (L.getD i []).length ∧ a.tmps[6]? = some (.int .i64 (k : Int)) ∧ (∀ k', k' < k → inD ((L.getD i []).getD k' 0) d = true) ∧ ∃ n, w' = w.drewN n

set_option maxHeartbeats 1000000 in
theorem rcheck_kind (r d : Int) (v : Value) (L : List (List Int)) (w : World) (h : Chs w v L) (hk : kindE r d (L.length : Int) ≠ 0) :
    Calls Try.prog 12 #[.agg #[.int .i64 r, .int .i64 d, v]] w fun e w' => e = .returned (.int .i64 (kindE r d (L.length : Int))) ∧ Kept Nix w w' := by
  obtain ⟨ao, cap, rfl, hc, hm, hp⟩ := h.open
  have HK := rwrong_any r d (L.length : Int)
  have ht : (kindE r d (L.length : Int) != 0) = true := bne_iff_ne.2 hk
  clear hp hc hm h hk
  generalize kindE r d (L.length : Int) = e0 at *
  go_enter Try.func12, Try.ntmps12
  go_wp2_with (first
    | (go_at_call 31; refine (HK _).mono ?_; rintro e w' ⟨rfl, rfl⟩))
  go_ret
  exact ⟨rfl, (Kept.refl _ w).alloc _⟩

set_option maxRecDepth 10000 in
set_option maxHeartbeats 2000000 in
theorem rcheck_good (r d : Int) (v : Value) (L : List (List Int)) (w : World) (h : Chs w v L) (hk : kindE r d (L.length : Int) = 0) (err : Int) (herr : (if evenB L = true then if rangeB L d = true then 0 else 6 else 13) = err) :
    Calls Try.prog 12 #[.agg #[.int .i64 r, .int .i64 d, v]] w fun e w' => e = .returned (.int .i64 err) ∧ Kept Nix w w' := by
  have HE := Lib.hid herr
  clear herr
  have hl : 1 ≤ L.length ∧ L.length ≤ 8 := by
    unfold kindE at hk
    split at hk
    · omega
    · omega
  obtain ⟨ao, cap, rfl, hc, hm, hp⟩ := h.open
  have HKK := rwrong_any r d (L.length : Int)
  rw [hk] at HKK
  have HL := Lib.hid hl
  have hch := h.nix ((Kept.refl Nix w).alloc (.cells #[.int .i64 r, .int .i64 d, .slice ao L.length cap] 24))
  have hbx : (w.alloc (.cells #[.int .i64 r, .int .i64 d, .slice ao L.length cap] 24)).heap[w.heap.size]? = some (.cells #[.int .i64 r, .int .i64 d, .slice ao L.length cap] 24 (0, 0)) := heap_alloc_new w _
  have hk : Kept Nix w (w.alloc (.cells #[.int .i64 r, .int .i64 d, .slice ao L.length cap] 24)) := (Kept.refl Nix w).alloc _
  have HBX := Lib.hid hbx
  have HK := Lib.hid hk
  obtain ⟨b, off, rfl, hb, A, C, hh⟩ := hch.at (by omega)
  have HH := Lib.hid hh
  clear hp hc hm h hl hbx hk hch hb hh
  go_enter Try.func12, Try.ntmps12
  go_wp2_with (first
    | (go_at_call 31; refine (HKK _).mono ?_; rintro e w' ⟨rfl, rfl⟩))
  generalize w.alloc (.cells #[.int .i64 r, .int .i64 d, .slice (some ⟨b, off, none⟩) L.length cap] 24) = w1 at *
  have hx2 : w1.cell? ⟨w.heap.size, 2, none⟩ = some (.slice (some ⟨b, off, none⟩) L.length cap) := by rw [cell_of HBX.out]; rfl
  have hx1 : w1.cell? ⟨w.heap.size, 1, none⟩ = some (.int .i64 d) := by rw [cell_of HBX.out]; rfl
  have hl8 := HL.out.2
  have hl0 : 0 < L.length := HL.out.1
  have hl0' : (0 : Int) < (L.length : Int) := by omega
  clear HKK
  refine wp_loop (RC1 w.heap.size L w1) (fun a _ => L.length - (intOf (a.tmps.getD 4 undef)).toNat) ?_ ?_
  · exact ⟨rfl, rfl, rfl, 1, HL.out.1, rfl, fun j hj => by obtain rfl : j = 0 := by omega
                                                           rfl, 0, rfl⟩
  · rintro ⟨tm, df⟩ w2 ⟨rfl, hs, e1, i, hi, e4, hall, n1, rfl⟩
    simp only at hs e1 e4
    obtain ⟨f, hf, hg⟩ := fr_open hs
    have g1 := hg _ _ e1
    have g4 := hg _ _ e4
    simp only [List.range, List.range.loop, List.map] at hf
    rw [g1, g4] at hf
    clear g1 g4 hg hs e1 e4
    subst hf
    have HALL := Lib.hid hall
    clear hall
    by_cases hlt : i < L.length
    · have hd : decide (i < L.length) = true := decide_eq_true hlt
      have hr1 := (HH.out i hlt).1
      have hr0 := (HH.out 0 hl0).1
      rw [Nat.add_zero] at hr0
      have hi1 : (i : Int) < (L.length : Int) := by omega
      have HI := Lib.hid hlt
      clear hi hlt
      generalize A i = ai at *
      generalize C i = ci at *
      generalize A 0 = a0 at *
      generalize C 0 = c0 at *
      have hm0 : (L.getD 0 []).length = manyN L := rfl
      rw [hm0] at hr0
      clear hm0
      by_cases hq : (L.getD i []).length = manyN L
      · have HQ := Lib.hid hq
        rw [hq] at hr1
        clear hq
        generalize hmm : manyN L = m at *
        have hne : ((m : Int) != (m : Int)) = false := by simp
        go_wp2
        go_quiet (fail)
        go_wp2
        refine ⟨⟨rfl, rfl, rfl, i + 1, HI.out, by simp, fun j hj => ?_, _, rfl⟩, ?_⟩
        · rw [hmm]
          by_cases hji : j = i
          · subst hji; exact HQ.out
          · exact HALL.out j (by omega)
        · have := HI.out
          simp [intOf]
          omega
      · have hu : evenB L = false := uneven_of HI.out hq
        have he : (13 : Int) = err := by rw [← HE.out, if_neg (by rw [hu]; simp)]
        have HE13 := Lib.hid he
        have hne : (((L.getD i []).length : Int) != (manyN L : Int)) = true := bne_iff_ne.2 (by omega)
        clear he hu hq
        generalize (L.getD i []).length = li at *
        generalize manyN L = m at *
        go_wp2
        go_quiet (fail)
        go_wp2
        go_ret
        exact ⟨ret_int HE13.out, (HK.out.drewN _).drewN _⟩
    · have hev : evenB L = true := even_of (fun j hj => HALL.out j (by omega))
      have hd : decide (i < L.length) = false := decide_eq_false hlt
      have HEV := Lib.hid hev
      clear hlt hi hev
      go_wp2
      refine wp_loop (RC2 w.heap.size L d w1) (fun a _ => L.length - (intOf (a.tmps.getD 5 undef)).toNat) ?_ ?_
      · exact ⟨rfl, rfl, rfl, 0, Nat.zero_le _, rfl, fun j hj => absurd hj (Nat.not_lt_zero j), _, rfl⟩
      · rintro ⟨tm, df⟩ w2 ⟨rfl, hs, e1, i2, hi2, e5, hall2, n2, rfl⟩
        simp only at hs e1 e5
        obtain ⟨f2, hf, hg⟩ := fr_open hs
        have g1 := hg _ _ e1
        have g5 := hg _ _ e5
        simp only [List.range, List.range.loop, List.map] at hf
        rw [g1, g5] at hf
        clear g1 g5 hg hs e1 e5
        subst hf
        have HALL2 := Lib.hid hall2
        clear hall2
        by_cases hlt : i2 < L.length
        · have hd2 : decide (i2 < L.length) = true := decide_eq_true hlt
          have hr := HH.out i2 hlt
          have hi21 : (i2 : Int) < (L.length : Int) := by omega
          have HI2 := Lib.hid hlt
          have HSL := Lib.hid hr.2
          have hr1 := hr.1
          clear hi2 hlt hr hd
          generalize A i2 = ai at *
          generalize C i2 = ci at *
          generalize hrow : L.getD i2 [] = row at *
          have HROW := Lib.hid hrow
          have hrl := row_len HSL.out
          have HRL := Lib.hid (show row.length ≤ 9223372036854775807 by simp [maxLen] at hrl; omega)
          clear hrow hrl
          go_wp2
          refine wp_loop (RC3 w.heap.size L d i2 w1) (fun a _ => row.length - (intOf (a.tmps.getD 6 undef)).toNat) ?_ ?_
          · exact ⟨rfl, rfl, rfl, rfl, 0, Nat.zero_le _, rfl, fun j hj => absurd hj (Nat.not_lt_zero j), _, rfl⟩
          · rintro ⟨tm, df⟩ w2 ⟨rfl, hs, e1, e5, k, hk3, e6, hall3, n3, rfl⟩
            simp only at hs e1 e5 e6
            obtain ⟨f3, hf, hg⟩ := fr_open hs
            have g1 := hg _ _ e1
            have g5 := hg _ _ e5
            have g6 := hg _ _ e6
            simp only [List.range, List.range.loop, List.map] at hf
            rw [g1, g5, g6] at hf
            clear g1 g5 g6 hg hs e1 e5 e6
            subst hf
            rw [HROW.out] at hk3
            simp only [HROW.out] at hall3
            have HALL3 := Lib.hid hall3
            clear hall3
            by_cases hlk : k < row.length
            · have hd3 : decide (k < row.length) = true := decide_eq_true hlk
              obtain ⟨b', off', rfl⟩ := HSL.out.where (by omega)
              have hcell := HSL.out.cellInt hlk
              have hk1 : (k : Int) < (row.length : Int) := by omega
              have HLK := Lib.hid hlk
              have hwk : wrap64 ((k : Int) + 1) = ((k + 1 : Nat) : Int) := by rw [w64_in _ (by have := HRL.out; omega)]; simp
              clear hk3 hlk
              generalize hsm : row.getD k 0 = sm at *
              have HSM := Lib.hid hsm
              clear hsm
              have HIN := rin_any sm d
              have y1 : (w1.drewN n3).cell? ⟨w.heap.size, 1, none⟩ = some (.int .i64 d) := hx1
              have y2 : (w1.drewN n3).cell? ⟨w.heap.size, 2, none⟩ = some (.slice (some ⟨b, off, none⟩) L.length cap) := hx2
              have y3 : (w1.drewN n3).cell? ⟨b, off + i2, none⟩ = some (.slice (some ⟨b', off', none⟩) row.length ci) := hr1
              have y4 : (w1.drewN n3).cell? ⟨b', off' + k, none⟩ = some (.int .i64 sm) := hcell
              generalize hwx : w1.drewN n3 = wx at *
              have HWX := Lib.hid hwx
              clear hwx hx1 hx2 hr1 hcell
              by_cases hin : inD sm d = true
              · have HI := Lib.hid hin
                rw [hin] at HIN
                clear hin
                go_wp2
                go_quiet ((go_at_call 16; exact Calls.quiet_of_same (HIN _)))
                go_wp2
                rw [hwk]
                refine ⟨⟨rfl, rfl, rfl, rfl, k + 1, by rw [HROW.out]; exact HLK.out, rfl, fun j hj => ?_, _, by rw [← HWX.out]; exact World.drewN_drewN _ _ _⟩, ?_⟩
                · rw [HROW.out]
                  by_cases hjk : j = k
                  · subst hjk; rw [HSM.out]; exact HI.out
                  · exact HALL3.out j (by omega)
                · have := HLK.out
                  simp [intOf]
                  omega
              · have hif : inD sm d = false := by simpa using hin
                have he : (6 : Int) = err := by
                  rw [← HE.out, if_pos HEV.out, if_neg]
                  rw [unrange_row HI2.out (by rw [HROW.out]; exact HLK.out) (by rw [HROW.out, HSM.out]; exact hif)]
                  simp
                have HE6 := Lib.hid he
                rw [hif] at HIN
                clear hin hif he
                go_wp2
                go_quiet ((go_at_call 16; exact Calls.quiet_of_same (HIN _)))
                go_wp2
                go_ret
                exact ⟨ret_int HE6.out, by rw [← HWX.out]; exact (HK.out.drewN _).drewN _⟩
            · have hd3 : decide (k < row.length) = false := decide_eq_false hlk
              have HLK := Lib.hid hlk
              clear hk3 hlk
              go_wp2
              refine ⟨⟨rfl, rfl, rfl, i2 + 1, HI2.out, by simp, fun j hj k' hk' => ?_, _, rfl⟩, ?_⟩
              · by_cases hji : j = i2
                · subst hji
                  rw [HROW.out] at hk' ⊢
                  exact HALL3.out k' (by have := HLK.out; omega)
                · exact HALL2.out j (by omega) k' hk'
              · have := HI2.out
                simp [intOf]
                omega
        · have hd2 : decide (i2 < L.length) = false := decide_eq_false hlt
          have he : (0 : Int) = err := by
            rw [← HE.out, if_pos HEV.out, if_pos]
            exact range_rows (fun j hj k hk => HALL2.out j (by omega) k hk)
          have HE0 := Lib.hid he
          clear he hlt hi2
          go_wp2
          go_ret
          exact ⟨ret_int HE0.out, HK.out.drewN _⟩

theorem rcheck_any (r d : Int) (v : Value) (L : List (List Int)) (w : World) (h : Chs w v L) :
    Calls Try.prog 12 #[.agg #[.int .i64 r, .int .i64 d, v]] w fun e w' => e = .returned (.int .i64 (chkE r d L)) ∧ Kept Nix w w' := by
  unfold chkE
  by_cases hk : kindE r d (L.length : Int) = 0
  · rw [if_pos hk]
    exact rcheck_good r d v L w h hk _ rfl
  · rw [if_neg hk]
    exact rcheck_kind r d v L w h hk

end Go.Proofs.Ytpiongdkfebchaa
