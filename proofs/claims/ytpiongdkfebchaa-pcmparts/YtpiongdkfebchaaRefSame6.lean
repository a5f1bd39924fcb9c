/- The reference of layers 1 and 6: Ints, Same. -/
import Derived.Test.YtpiongdkfebchaaChs
import Derived.Test.YtpiongdkfebchaaInts
import Derived.Test.YtpiongdkfebchaaKit
namespace Go.Proofs.Ytpiongdkfebchaa
open Go.RowKit Bx

def RSInv (p q : Nat) (L M : List (List Int)) (w : World) (a : Act) (w' : World) : Prop :=
  a.defers = [] ∧ a.tmps.size = 46 ∧ a.tmps[2]? = some (.pointer (some ⟨p, 0, none⟩)) ∧ a.tmps[3]? = some (.pointer (some ⟨q, 0, none⟩)) ∧ ∃ i : Nat, i ≤ L.length ∧ a.tmps[5]? = some (.int .i64 (i : Int)) ∧ (∀ j, j < i → L.getD j [] = M.getD j []) ∧ ∃ n, w' = w.drewN n

def sameS (r d : Int) (L : List (List Int)) (r' d' : Int) (M : List (List Int)) : Bool := decide (r = r') && decide (d = d') && decide (L = M)

theorem list_ext_getD {L M : List (List Int)} (hl : L.length = M.length) (h : ∀ j, j < L.length → L.getD j [] = M.getD j []) : L = M := by
  apply List.ext_getElem hl
  intro i h1 h2
  have := h i h1
  simpa [List.getD, h1, h2] using this

set_option maxHeartbeats 2000000 in
theorem rsame_any (r d r' d' : Int) (v v' : Value) (L M : List (List Int)) (w : World) (h : Chs w v L) (h' : Chs w v' M) (hb : ∀ c ∈ L, c.length < 1099511627776) :
    Calls Try.prog 21 #[.agg #[.int .i64 r, .int .i64 d, v], .agg #[.int .i64 r', .int .i64 d', v']] w fun e w' => e = .returned (.bool (sameS r d L r' d' M)) ∧ Kept Nix w w' := by
  obtain ⟨ao, cap, rfl, hc1, hm1, _⟩ := h.open
  obtain ⟨bo, cap', rfl, _, _, _⟩ := h'.open
  have hlm : L.length ≤ 9223372036854775807 := by simp [maxLen] at hm1; omega
  have HLM := Lib.hid hlm
  have HBB := Lib.hid hb
  have k2 : Kept Nix w ((w.alloc (.cells #[.int .i64 r, .int .i64 d, .slice ao L.length cap] 24)).alloc (.cells #[.int .i64 r', .int .i64 d', .slice bo M.length cap'] 24)) := ((Kept.refl _ w).alloc _).alloc _
  have b1 : ((w.alloc (.cells #[.int .i64 r, .int .i64 d, .slice ao L.length cap] 24)).alloc (.cells #[.int .i64 r', .int .i64 d', .slice bo M.length cap'] 24)).heap[w.heap.size]? = some (.cells #[.int .i64 r, .int .i64 d, .slice ao L.length cap] 24 (0, 0)) := (Below.heap_alloc _ _ _ (by simp)).trans (heap_alloc_new w _)
  have b2 : ((w.alloc (.cells #[.int .i64 r, .int .i64 d, .slice ao L.length cap] 24)).alloc (.cells #[.int .i64 r', .int .i64 d', .slice bo M.length cap'] 24)).heap[w.heap.size + 1]? = some (.cells #[.int .i64 r', .int .i64 d', .slice bo M.length cap'] 24 (0, 0)) := heap_new (by simp)
  have HC := Lib.hid (h.nix k2)
  have HC' := Lib.hid (h'.nix k2)
  have K2 := Lib.hid k2
  have HB1 := Lib.hid b1
  have HB2 := Lib.hid b2
  clear h h' hc1 hm1 hlm k2 b1 b2 hb
  by_cases hq : r = r' ∧ d = d' ∧ L.length = M.length
  · obtain ⟨rfl, rfl, hl⟩ := hq
    have t1 : (r != r) = false := by simp
    have t2 : (d != d) = false := by simp
    have t3 : ((L.length : Int) != (M.length : Int)) = false := by simp [hl]
    have HLL := Lib.hid hl
    clear hl
    go_enter Try.func21, Try.ntmps21
    go_wp2
    generalize (w.alloc (.cells #[.int .i64 r, .int .i64 d, .slice ao L.length cap] 24)).alloc (.cells #[.int .i64 r, .int .i64 d, .slice bo M.length cap'] 24) = w1 at *
    have x1 : w1.cell? ⟨w.heap.size, 2, none⟩ = some (.slice ao L.length cap) := by rw [cell_of HB1.out]; rfl
    have x2 : w1.cell? ⟨w.heap.size + 1, 2, none⟩ = some (.slice bo M.length cap') := by rw [cell_of HB2.out]; rfl
    refine wp_loop (RSInv w.heap.size (w.heap.size + 1) L M w1) (fun a _ => L.length - (intOf (a.tmps.getD 5 undef)).toNat) ?_ ?_
    · exact ⟨rfl, rfl, rfl, rfl, 0, Nat.zero_le _, rfl, fun j hj => absurd hj (Nat.not_lt_zero j), 0, rfl⟩
    · rintro ⟨tm, df⟩ w2 ⟨rfl, hs, e2, e3, i, hi, e5, hall, n1, rfl⟩
      simp only at hs e2 e3 e5
      obtain ⟨f, hf, hg⟩ := fr_open hs
      have g2 := hg _ _ e2
      have g3 := hg _ _ e3
      have g5 := hg _ _ e5
      simp only [List.range, List.range.loop, List.map] at hf
      rw [g2, g3, g5] at hf
      clear g2 g3 g5 hg hs e2 e3 e5
      subst hf
      have HALL := Lib.hid hall
      clear hall
      by_cases hlt : i < L.length
      · have hd : decide (i < L.length) = true := decide_eq_true hlt
        obtain ⟨p1, o1, rfl, _, A1, C1, hh1⟩ := HC.out.at (by omega)
        obtain ⟨p2, o2, rfl, _, A2, C2, hh2⟩ := HC'.out.at (by have := HLL.out; omega)
        obtain ⟨y1, s1⟩ := hh1 i hlt
        obtain ⟨y2, s2⟩ := hh2 i (by have := HLL.out; omega)
        have hi1 : (i : Int) < (L.length : Int) := by omega
        have hi2 : (i : Int) < (M.length : Int) := by have := HLL.out; omega
        have HI := Lib.hid hlt
        have hwi : wrap64 ((i : Int) + 1) = ((i + 1 : Nat) : Int) := by rw [w64_i _ (by have := HLM.out; omega)]; simp
        have hbl : (L.getD i []).length < 1099511627776 := by
          simp only [List.getD, List.getElem?_eq_getElem hlt, Option.getD_some]
          exact HBB.out _ (List.getElem_mem hlt)
        have z1 : (w1.drewN n1).cell? ⟨w.heap.size, 2, none⟩ = some (.slice (some ⟨p1, o1, none⟩) L.length cap) := x1
        have z2 : (w1.drewN n1).cell? ⟨w.heap.size + 1, 2, none⟩ = some (.slice (some ⟨p2, o2, none⟩) M.length cap') := x2
        have z3' : (w1.drewN n1).cell? ⟨p1, o1 + i, none⟩ = some (.slice (A1 i) (L.getD i []).length (C1 i)) := y1
        have z4 : (w1.drewN n1).cell? ⟨p2, o2 + i, none⟩ = some (.slice (A2 i) (M.getD i []).length (C2 i)) := y2
        have hI := fun n2 => ints_any (.slice (A1 i) (L.getD i []).length (C1 i)) (.slice (A2 i) (M.getD i []).length (C2 i)) (L.getD i []) (M.getD i []) ((w1.drewN n1).drewN n2) (s1.nix (((Kept.refl _ _).drewN _).drewN _)) (s2.nix (((Kept.refl _ _).drewN _).drewN _)) hbl
        have HII := Lib.hid hI
        generalize hwx : w1.drewN n1 = wx at *
        have HWX := Lib.hid hwx
        generalize A1 i = a1 at *
        generalize C1 i = c1 at *
        generalize A2 i = a2 at *
        generalize C2 i = c2 at *
        clear hI hh1 hh2 s1 s2 y1 y2 x1 x2 hbl hi hlt hwx
        obtain ⟨bb, hbb⟩ : ∃ bb, decide (L.getD i [] = M.getD i []) = bb := ⟨_, rfl⟩
        rw [hbb] at HII
        generalize (L.getD i []).length = l1 at *
        generalize (M.getD i []).length = l2 at *
        have HBBB := Lib.hid hbb
        clear hbb
        cases bb with
        | true =>
          go_wp2
          go_quiet ((go_at_call 35; exact Calls.quiet_of (HII.out _)))
          go_wp2
          rw [hwi]
          refine ⟨⟨rfl, rfl, rfl, rfl, i + 1, HI.out, rfl, fun j hj => ?_, _, by rw [← HWX.out]; exact World.drewN_drewN _ _ _⟩, ?_⟩
          · by_cases hji : j = i
            · subst hji
              exact of_decide_eq_true HBBB.out
            · exact HALL.out j (by omega)
          · have := HI.out
            simp [intOf]
            omega
        | false =>
          have hres : sameS r d L r d M = false := by
            have hne : ¬ L = M := fun e => by
              have h := of_decide_eq_false HBBB.out
              rw [e] at h
              exact h rfl
            simp [sameS, hne]
          have HRES := Lib.hid hres
          clear hres
          go_wp2
          go_quiet ((go_at_call 35; exact Calls.quiet_of (HII.out _)))
          go_wp2
          go_ret
          exact ⟨by rw [HRES.out]; rfl, by rw [← HWX.out]; exact (K2.out.drewN _).drewN _⟩
      · have hd : decide (i < L.length) = false := decide_eq_false hlt
        have hres : sameS r d L r d M = true := by
          have he : L = M := list_ext_getD HLL.out (fun j hj => HALL.out j (by omega))
          simp [sameS, he]
        have HRES := Lib.hid hres
        clear hres hlt hi
        go_wp2
        go_ret
        exact ⟨by rw [HRES.out]; rfl, K2.out.drewN _⟩
  · have hres : sameS r d L r' d' M = false := by
      unfold sameS
      by_cases h1 : r = r'
      · by_cases h2 : d = d'
        · have h3 : ¬ L = M := fun e => hq ⟨h1, h2, by rw [e]⟩
          simp [h3]
        · simp [h2]
      · simp [h1]
    have HRES := Lib.hid hres
    clear hres
    by_cases h1 : r = r'
    · subst h1
      have t1 : (r != r) = false := by simp
      by_cases h2 : d = d'
      · subst h2
        have t2 : (d != d) = false := by simp
        have t3 : ((L.length : Int) != (M.length : Int)) = true := bne_iff_ne.2 (fun e => hq ⟨rfl, rfl, by omega⟩)
        clear hq
        go_enter Try.func21, Try.ntmps21
        go_wp2
        go_ret
        exact ⟨by rw [HRES.out]; rfl, K2.out⟩
      · have t2 : (d != d') = true := bne_iff_ne.2 h2
        clear hq h2
        go_enter Try.func21, Try.ntmps21
        go_wp2
        go_ret
        exact ⟨by rw [HRES.out]; rfl, K2.out⟩
    · have t1 : (r != r') = true := bne_iff_ne.2 h1
      clear hq h1
      go_enter Try.func21, Try.ntmps21
      go_wp2
      go_ret
      exact ⟨by rw [HRES.out]; rfl, K2.out⟩

end Go.Proofs.Ytpiongdkfebchaa
