/- Package pcm: Part. -/
import Derived.Test.YtpiongdkfebchaaRack
namespace Go.Proofs.Ytpiongdkfebchaa
open Go.RowKit Bx

def partL (L : List (List Int)) (f m : Int) : List (List Int) := L.map (fun c => (c.drop f.toNat).take m.toNat)

theorem partL_snoc (L : List (List Int)) (f m : Int) {i : Nat} (h : i < L.length) : partL (L.take (i + 1)) f m = partL (L.take i) f m ++ [((L.getD i []).drop f.toNat).take m.toNat] := by
  unfold partL
  rw [List.take_succ_eq_append_getElem h, List.map_append]
  simp [List.getD, h]

theorem part_nums {n1 n2 n12 len ci : Nat} (h1 : n1 ≤ len) (h2 : n2 ≤ len - n1) (hl : len < 1099511627776) (hc : len ≤ ci) (h : n12 = n1 + n2) : wrap64 ((n1 : Int) + (n2 : Int)) = (n12 : Int) ∧ IntKind.i64.wrap ((n1 : Int) + (n2 : Int)) = (n12 : Int) ∧ n1 ≤ n12 ∧ n12 ≤ ci ∧ n12 ≤ len ∧ n12 - n1 = n2 := by
  subst h
  refine ⟨?_, ?_, by omega, by omega, by omega, by omega⟩
  · rw [← Int.natCast_add]
    exact w64_in _ (by omega)
  · rw [← Int.natCast_add, IntKind.wrap_i64]
    omega

theorem part_len (row : List Int) (f m : Int) (h : row.length < 1099511627776) : ((row.drop f.toNat).take m.toNat).length < 1099511627776 := by
  rw [List.length_take, List.length_drop]
  omega

theorem part_eq (row : List Int) (f m : Int) {n1 n2 : Nat} (h1 : n1 = min f.toNat row.length) (h2 : n2 = min m.toNat (row.length - n1)) : (row.drop n1).take n2 = (row.drop f.toNat).take m.toNat := by
  subst h2
  subst h1
  by_cases hfl : f.toNat ≤ row.length
  · rw [Nat.min_eq_left hfl]
    apply List.take_eq_take_iff.2
    simp
  · rw [Nat.min_eq_right (by omega), List.drop_of_length_le (by omega), List.drop_of_length_le (by omega)]
    simp

theorem partL_len (L : List (List Int)) (f m : Int) {i : Nat} (h : i ≤ L.length) : (partL (L.take i) f m).length = i := by
  simp [partL]
  omega

theorem row_bounds {i n : Nat} (h : i < n) (hn : n < 1099511627776) : i + 1 ≤ maxLen ∧ (i + 1) * 24 ≤ 140737488355328 := by
  unfold maxLen
  omega

def PartInv (r d f m : Int) (v : Value) (L : List (List Int)) (w : World) (a : Act) (w' : World) : Prop :=
  a.defers = [] ∧ a.tmps.size = 50 ∧ a.tmps[1]? = some (.int .i64 f) ∧ a.tmps[2]? = some (.int .i64 m) ∧ a.tmps[6]? = some (.pointer (some ⟨w.heap.size + 1, 0, none⟩)) ∧ a.tmps[7]? = some (.pointer (some ⟨w.heap.size + 1 + 1, 0, none⟩)) ∧ a.tmps[18]? = some v ∧ a.tmps[19]? = some (.int .i64 (L.length : Int)) ∧
    ∃ i : Nat, i ≤ L.length ∧ a.tmps[20]? = some (.int .i64 (i : Int)) ∧ Kept Nix w w' ∧ w'.heap[w.heap.size + 1]? = some (.cells #[.int .i64 0, .int .i64 0, .slice none 0 0] 24 (0, 0)) ∧
      ∃ vr us, w'.heap[w.heap.size + 1 + 1]? = some (.cells #[.int .i64 r, .int .i64 d, vr] 24 (0, 0)) ∧ Rack w.heap.size w' vr us (partL (L.take i) f m)

theorem part_start (w : World) (r d : Int) (v : Value) : ∀ w', w' = ((w.alloc (.cells #[.int .i64 r, .int .i64 d, v] 24)).alloc (.cells #[.int .i64 0, .int .i64 0, .slice none 0 0] 24)).alloc (.cells #[.int .i64 r, .int .i64 d, .slice none 0 0] 24) →
    Kept Nix w w' ∧ w'.heap[w.heap.size + 1]? = some (.cells #[.int .i64 0, .int .i64 0, .slice none 0 0] 24 (0, 0)) ∧ w'.heap[w.heap.size + 1 + 1]? = some (.cells #[.int .i64 r, .int .i64 d, .slice none 0 0] 24 (0, 0)) ∧ w'.heap[w.heap.size]? = some (.cells #[.int .i64 r, .int .i64 d, v] 24 (0, 0)) := by
  rintro w' rfl
  refine ⟨(((Kept.refl _ w).alloc _).alloc _).alloc _, (Below.heap_alloc _ _ _ (by simp)).trans (heap_new (by simp)), heap_new (by simp), ?_⟩
  exact (Below.heap_alloc _ _ _ (by simp; omega)).trans ((Below.heap_alloc _ _ _ (by simp)).trans (heap_alloc_new _ _))

set_option maxRecDepth 10000 in
set_option maxHeartbeats 4000000 in
theorem part_any (r d : Int) (v : Value) (L : List (List Int)) (f m : Int) (w : World) (h : Chs w v L) (hl : L.length < 1099511627776) (hrows : ∀ c ∈ L, c.length < 1099511627776) :
    Calls Try.prog 27 #[.agg #[.int .i64 r, .int .i64 d, v], .int .i64 f, .int .i64 m] w fun e w' => ∃ v' us, e = .returned (.agg #[.int .i64 r, .int .i64 d, v']) ∧ Kept Nix w w' ∧ Rack w.heap.size w' v' us (partL L f m) := by
  obtain ⟨ao, cap, rfl, _, _, _⟩ := h.open
  have HCH := Lib.hid h
  have HROWS := Lib.hid hrows
  obtain ⟨k0, h1, h2, h0⟩ := part_start w r d (.slice ao L.length cap) _ rfl
  have K0 := Lib.hid k0
  have H1 := Lib.hid h1
  have H2 := Lib.hid h2
  clear h hrows k0 h1 h2 h0
  go_enter Try.func27, Try.ntmps27
  go_wp2
  generalize ((w.alloc (.cells #[.int .i64 r, .int .i64 d, .slice ao L.length cap] 24)).alloc (.cells #[.int .i64 0, .int .i64 0, .slice none 0 0] 24)).alloc (.cells #[.int .i64 r, .int .i64 d, .slice none 0 0] 24) = w0 at *
  refine wp_loop (PartInv r d f m (.slice ao L.length cap) L w) (fun a _ => L.length - (intOf (a.tmps.getD 20 undef)).toNat) ?_ ?_
  · exact ⟨rfl, rfl, rfl, rfl, rfl, rfl, rfl, rfl, 0, Nat.zero_le _, rfl, K0.out, H1.out, _, [], H2.out, rack_nil _ _⟩
  · clear K0 H1 H2
    rintro ⟨tm, df⟩ w1 ⟨rfl, hs, e1, e2, e6, e7, e18, e19, i, hi, e20, hk, h6, vr, us, h7, hrk⟩
    simp only at hs e1 e2 e6 e7 e18 e19 e20
    obtain ⟨fr, hf, hg⟩ := fr_open hs
    have g1 := hg _ _ e1
    have g2 := hg _ _ e2
    have g6 := hg _ _ e6
    have g7 := hg _ _ e7
    have g18 := hg _ _ e18
    have g19 := hg _ _ e19
    have g20 := hg _ _ e20
    simp only [List.range, List.range.loop, List.map] at hf
    rw [g1, g2, g6, g7, g18, g19, g20] at hf
    clear g1 g2 g6 g7 g18 g19 g20 hg hs e1 e2 e6 e7 e18 e19 e20
    subst hf
    have HK := Lib.hid hk
    have H6 := Lib.hid h6
    have H7 := Lib.hid h7
    have HRK := Lib.hid hrk
    by_cases hlt : i < L.length
    · have hd : decide (i < L.length) = true := decide_eq_true hlt
      obtain ⟨b, off, rfl, hb, A, C, hh⟩ := (HCH.out.nix hk).at (by omega)
      obtain ⟨hcell, hsl⟩ := hh i hlt
      have hi1 : (i : Int) < (L.length : Int) := by omega
      have hrl : (L.getD i []).length < 1099511627776 := by
        simp only [List.getD, List.getElem?_eq_getElem hlt, Option.getD_some]
        exact HROWS.out _ (List.getElem_mem hlt)
      have hcp := hsl.cap
      have HSL := Lib.hid hsl
      have HI := Lib.hid hlt
      have hps := partL_snoc L f m hlt
      have HPS := Lib.hid hps
      clear hh hb hi hlt hk h6 hrk hsl hps
      generalize hrow : L.getD i [] = row at *
      generalize A i = ai at *
      generalize C i = ci at *
      obtain ⟨n1, hn1⟩ : ∃ n1 : Nat, n1 = min f.toNat row.length := ⟨_, rfl⟩
      obtain ⟨n2, hn2⟩ : ∃ n2 : Nat, n2 = min m.toNat (row.length - n1) := ⟨_, rfl⟩
      have HN := Lib.hid (And.intro hn1 hn2)
      have HCP := Lib.hid hcp
      have HRL := Lib.hid hrl
      clear hn1 hn2 hrow hcp
      go_upto_region 5 with fail
      refine wp_mono (Q := fun e a' w' => e = .normal ∧ w' = w1 ∧ a'.defers = [] ∧ a'.tmps.size = 50 ∧ a'.tmps[1]? = some (.int .i64 f) ∧ a'.tmps[2]? = some (.int .i64 m) ∧ a'.tmps[6]? = some (.pointer (some ⟨w.heap.size + 1, 0, none⟩)) ∧ a'.tmps[7]? = some (.pointer (some ⟨w.heap.size + 1 + 1, 0, none⟩)) ∧ a'.tmps[18]? = some (.slice (some ⟨b, off, none⟩) L.length cap) ∧ a'.tmps[19]? = some (.int .i64 (L.length : Int)) ∧ a'.tmps[20]? = some (.int .i64 (i : Int)) ∧ a'.tmps[9]? = some (.slice ai row.length ci) ∧ a'.tmps[10]? = some (.int .i64 (n1 : Int))) ?_ ?_
      · have hn1' : ∀ z : Int, z = (n1 : Int) → some (Value.int IntKind.i64 z) = some (.int .i64 (n1 : Int)) := fun z h => by rw [h]
        have HN1' := Lib.hid hn1'
        clear hn1'
        go_wp2
        all_goals (have q1 := HN.out.1; clear HN; omega)
      · rintro e ⟨tm, df⟩ w2 ⟨rfl, rfl, rfl, hs, e1, e2, e6, e7, e18, e19, e20, e9, e10⟩
        simp only at hs e1 e2 e6 e7 e18 e19 e20 e9 e10
        obtain ⟨fr2, hf, hg⟩ := fr_open hs
        have g1 := hg _ _ e1
        have g2 := hg _ _ e2
        have g6 := hg _ _ e6
        have g7 := hg _ _ e7
        have g18 := hg _ _ e18
        have g19 := hg _ _ e19
        have g20 := hg _ _ e20
        have g9 := hg _ _ e9
        have g10 := hg _ _ e10
        simp only [List.range, List.range.loop, List.map] at hf
        rw [g1, g2, g6, g7, g18, g19, g20, g9, g10] at hf
        clear g1 g2 g6 g7 g18 g19 g20 g9 g10 hg hs e1 e2 e6 e7 e18 e19 e20 e9 e10
        subst hf
        have hn1r : n1 ≤ row.length := by rw [HN.out.1]; exact Nat.min_le_right _ _
        go_upto_region 6 with fail
        refine wp_mono (Q := fun e a' w' => e = .normal ∧ w' = w2 ∧ a'.defers = [] ∧ a'.tmps.size = 50 ∧ a'.tmps[1]? = some (.int .i64 f) ∧ a'.tmps[2]? = some (.int .i64 m) ∧ a'.tmps[6]? = some (.pointer (some ⟨w.heap.size + 1, 0, none⟩)) ∧ a'.tmps[7]? = some (.pointer (some ⟨w.heap.size + 1 + 1, 0, none⟩)) ∧ a'.tmps[18]? = some (.slice (some ⟨b, off, none⟩) L.length cap) ∧ a'.tmps[19]? = some (.int .i64 (L.length : Int)) ∧ a'.tmps[20]? = some (.int .i64 (i : Int)) ∧ a'.tmps[9]? = some (.slice ai row.length ci) ∧ a'.tmps[10]? = some (.int .i64 (n1 : Int)) ∧ a'.tmps[11]? = some (.int .i64 (n2 : Int))) ?_ ?_
        · go_wp2
          all_goals (have q1 := HN.out.2; clear HN; omega)
        · rintro e ⟨tm, df⟩ w3 ⟨rfl, rfl, rfl, hs, e1, e2, e6, e7, e18, e19, e20, e9, e10, e11⟩
          simp only at hs e1 e2 e6 e7 e18 e19 e20 e9 e10 e11
          obtain ⟨fr3, hf, hg⟩ := fr_open hs
          have g1 := hg _ _ e1
          have g2 := hg _ _ e2
          have g6 := hg _ _ e6
          have g7 := hg _ _ e7
          have g18 := hg _ _ e18
          have g19 := hg _ _ e19
          have g20 := hg _ _ e20
          have g9 := hg _ _ e9
          have g10 := hg _ _ e10
          have g11 := hg _ _ e11
          simp only [List.range, List.range.loop, List.map] at hf
          rw [g1, g2, g6, g7, g18, g19, g20, g9, g10, g11] at hf
          clear g1 g2 g6 g7 g18 g19 g20 g9 g10 g11 hg hs e1 e2 e6 e7 e18 e19 e20 e9 e10 e11
          subst hf
          have hn2r : n2 ≤ row.length - n1 := by rw [HN.out.2]; exact Nat.min_le_right _ _
          have hcpp := HCP.out
          obtain ⟨n12, hn12⟩ : ∃ n12 : Nat, n12 = n1 + n2 := ⟨_, rfl⟩
          obtain ⟨hw1, hw2, hq1, hq2, hq3, hl2e⟩ := part_nums hn1r hn2r HRL.out hcpp.1 hn12
          have fz1 := fun ww => run_mid ww ai row.length ci n1 n12 hq1 hq2
          have fz2 := fun ww => run_mid_at ww ai row.length ci n1 n12 hq1 hq2
          have hsm := sl_mid HSL.out n1 n12 hq1 hq3
          have hpart := part_eq row f m HN.out.1 HN.out.2
          rw [hl2e] at hsm
          rw [show ((row.map (Value.int .i64)).drop n1).take n2 = ivs ((row.drop n1).take n2) by simp [ivs, List.map_take, List.map_drop], hpart] at hsm
          have hpl := part_len row f m HRL.out
          generalize hpt : (row.drop f.toNat).take m.toNat = pt at *
          rw [hl2e] at fz1 fz2
          generalize (if ci = n1 then ai else Option.map (fun x => x.add n1) ai) = A1 at *
          generalize ci - n1 = c2 at *
          have CL := clone_any _ pt w3.drew (hsm.nix (Kept.refl Nix w3).drew) hpl
          have HPT := Lib.hid hpt
          have hus : us.length = i := HRK.out.2.1.trans (partL_len L f m (Nat.le_of_lt HI.out))
          obtain ⟨vo, vcap, rfl, _, _⟩ := owns_shape HRK.out.1
          have x7 : w3.drew.cell? ⟨w.heap.size + 1 + 1, 2, none⟩ = some (.slice vo us.length vcap) := by rw [show w3.drew.cell? ⟨w.heap.size + 1 + 1, 2, none⟩ = w3.cell? ⟨w.heap.size + 1 + 1, 2, none⟩ from rfl, cell_of h7]; rfl
          have HB1 := Lib.hid (show us.length + 1 ≤ maxLen by rw [hus]; exact (row_bounds HI.out hl).1)
          have HB2 := Lib.hid (show (us.length + 1) * 24 ≤ 140737488355328 by rw [hus]; exact (row_bounds HI.out hl).2)
          have HUS := Lib.hid hus
          clear hsm hpart hpt hl2e hn12 hcpp hus h7 hcell hrl hpl hn1r hn2r
          have H7D := Lib.hid (show w3.drew.heap[w.heap.size + 1 + 1]? = some (.cells #[.int .i64 r, .int .i64 d, .slice vo us.length vcap] 24 (0, 0)) from H7.out)
          have MK := Lib.hid (show ∀ wx uo ucap, Kept Nix w3.drew wx → wx.ownsRow w3.drew.heap.size 3 1 (.slice uo pt.length ucap) pt.length (ivs pt) →
              (wx.alloc (.cells #[.slice uo pt.length ucap] 45)).ownsRow w.heap.size 45 1 (.slice vo us.length vcap) us.length us ∧ SrcIs (wx.alloc (.cells #[.slice uo pt.length ucap] 45)) 1 (some ⟨wx.heap.size, 0, none⟩) 1 1 [.slice uo pt.length ucap] ∧ w.heap.size ≤ (wx.alloc (.cells #[.slice uo pt.length ucap] 45)).heap.size ∧
              Kept Nix w3 (wx.alloc (.cells #[.slice uo pt.length ucap] 45)) ∧ (wx.alloc (.cells #[.slice uo pt.length ucap] 45)).ownsRow w.heap.size 3 1 (.slice uo pt.length ucap) pt.length (ivs pt) from by
            intro wx uo ucap hkx hou
            have hk3 : Kept Nix w3 wx := ⟨hkx.os, hkx.tape, hkx.output, hkx.size, hkx.block⟩
            refine ⟨(hk3.owns HRK.out.1 (fun _ _ h => h)).alloc _, src_one _ _ _ rfl, ?_, hk3.alloc _, (owns_weak hou HK.out.size).alloc _⟩
            have h1 := HK.out.size
            have h2 := hk3.size
            rw [World.size_alloc]
            exact Nat.le_trans h1 (Nat.le_trans h2 (Nat.le_succ _)))
          have KP := Lib.hid (show ∀ wy w6, Kept Nix w3 wy → wy.grownBy w6 (Value.slice vo us.length vcap).ownBlock → w6.heap[w.heap.size + 1 + 1]? = some (.cells #[.int .i64 r, .int .i64 d, .slice vo us.length vcap] 24 (0, 0)) from by
            intro wy w6 hy hg6
            have hk2 := hy.heap H7.out id
            refine (hg6.block _ (lt_of_heap hk2) (fun e => ?_)).trans hk2
            obtain ⟨cur', hg'⟩ := owns_type (HRK.out.kept hy).1 e.symm
            rw [hk2] at hg'
            simp at hg')
          go_upto_region 7 with fail
          refine wp_mono (Q := fun e a' w' => match e with
            | .normal => a'.defers = [] ∧ a'.tmps.size = 50 ∧ a'.tmps[1]? = some (.int .i64 f) ∧ a'.tmps[2]? = some (.int .i64 m) ∧ a'.tmps[6]? = some (.pointer (some ⟨w.heap.size + 1, 0, none⟩)) ∧ a'.tmps[7]? = some (.pointer (some ⟨w.heap.size + 1 + 1, 0, none⟩)) ∧ a'.tmps[18]? = some (.slice (some ⟨b, off, none⟩) L.length cap) ∧ a'.tmps[19]? = some (.int .i64 (L.length : Int)) ∧ a'.tmps[20]? = some (.int .i64 (i : Int)) ∧
              Kept Nix w w' ∧ w'.heap[w.heap.size + 1]? = some (.cells #[.int .i64 0, .int .i64 0, .slice none 0 0] 24 (0, 0)) ∧ ∃ v' us', w'.heap[w.heap.size + 1 + 1]? = some (.cells #[.int .i64 r, .int .i64 d, v'] 24 (0, 0)) ∧ Rack w.heap.size w' v' us' (partL (L.take (i + 1)) f m)
            | _ => False) ?_ ?_
          · go_region_law (first
              | (go_simp; go_at_call 38; refine CL.mono ?_; rintro e wx ⟨u', rfl, hou, hkx⟩; obtain ⟨uo, ucap, rfl, _, _⟩ := owns_shape hou; obtain ⟨m1, m2, m3, m4, m5⟩ := MK.out wx uo ucap hkx hou; have c7a : wx.cell? ⟨w.heap.size + 1 + 1, 2, none⟩ = some (.slice vo us.length vcap) := (cell_of (i := 2) (hkx.heap H7D.out id)).trans rfl; have c7b : (wx.alloc (.cells #[.slice uo pt.length ucap] 45)).cell? ⟨w.heap.size + 1 + 1, 2, none⟩ = some (.slice vo us.length vcap) := (cell_of (i := 2) (m4.heap H7.out id)).trans rfl; have OWN := Lib.hid m1; have SRC := Lib.hid m2; have B3 := Lib.hid m3; have KX := Lib.hid m4; have OU := Lib.hid m5; clear m1 m2 m3 m4 m5 hou hkx)
              | (refine step_app _ rfl (.tmp 37) (.tmp 45) 22 rfl w.heap.size 45 (.slice none 0 0) 1 24 Try.underlying22 info_ints rfl (by decide) (.slice vo us.length vcap) us.length us rfl OWN.out (some ⟨wx.heap.size, 0, none⟩) 1 1 [.slice uo pt.length ucap] rfl SRC.out HB1.out HB2.out B3.out ?_; intro v6 w6 o6 g6 n6; obtain ⟨g', cap', rfl, _⟩ := owns_pos o6 (Nat.succ_pos _); have q9 := KP.out _ _ KX.out g6; have hc9' := cell_of (i := 2) q9; have hf9' := frozen_of (i := 2) q9; have O6 := Lib.hid o6; have G6 := Lib.hid g6; clear q9 o6 g6 n6))
            all_goals
              obtain ⟨s1, s2, s3, s4⟩ := rack_step HK.out H7.out HRK.out KX.out OU.out O6.out G6.out (Nat.le_trans (Nat.le_succ _) (Nat.le_succ _))
              rw [← HPS.out] at s4
              exact ⟨rfl, rfl, rfl, rfl, rfl, rfl, rfl, rfl, rfl, s1, s2 _ _ _ (Nat.ne_of_lt (Nat.lt_succ_self _)) (by decide) H6.out, _, _, s3, s4⟩
          · rintro e ⟨tm, df⟩ w4 hq
            cases e with
            | normal =>
              obtain ⟨rfl, hs, e1, e2, e6, e7, e18, e19, e20, hk4, h64, v4, us4, h74, hrk4⟩ := hq
              simp only at hs e1 e2 e6 e7 e18 e19 e20
              obtain ⟨fr4, hf, hg⟩ := fr_open hs
              have g1 := hg _ _ e1
              have g2 := hg _ _ e2
              have g6 := hg _ _ e6
              have g7 := hg _ _ e7
              have g18 := hg _ _ e18
              have g19 := hg _ _ e19
              have g20 := hg _ _ e20
              simp only [List.range, List.range.loop, List.map] at hf
              rw [g1, g2, g6, g7, g18, g19, g20] at hf
              clear g1 g2 g6 g7 g18 g19 g20 hg hs e1 e2 e6 e7 e18 e19 e20
              subst hf
              have HK4 := Lib.hid hk4
              have H64 := Lib.hid h64
              have H74 := Lib.hid h74
              have HRK4 := Lib.hid hrk4
              clear hk4 h64 h74 hrk4 fz1 fz2 x7 CL hw1 hw2
              have hi1' : i < L.length := HI.out
              go_wp2
              refine ⟨⟨rfl, rfl, rfl, rfl, rfl, rfl, rfl, rfl, i + 1, HI.out, by simp, HK4.out, H64.out, v4, us4, H74.out, HRK4.out⟩, ?_⟩
              have := HI.out
              simp [intOf]
              omega
            | _ => exact hq.elim
    · have hd : decide (i < L.length) = false := decide_eq_false hlt
      have hiL : i = L.length := by omega
      subst hiL
      rw [List.take_length] at HRK
      have hc0 : w1.cell? ⟨w.heap.size + 1 + 1, 0, none⟩ = some (.int .i64 r) := by rw [cell_of h7]; rfl
      have hc1 : w1.cell? ⟨w.heap.size + 1 + 1, 1, none⟩ = some (.int .i64 d) := by rw [cell_of h7]; rfl
      obtain ⟨vo, vcap, rfl, _, _⟩ := owns_shape hrk.1
      have hc2 : w1.cell? ⟨w.heap.size + 1 + 1, 2, none⟩ = some (.slice vo us.length vcap) := by rw [cell_of h7]; rfl
      clear hlt hi hk h6 h7 hrk
      go_wp2_with (first | (refine wpList_store_row rfl 24 _ _ rfl _ _ rfl rfl 24 _ H6.out size_sound rfl (one_sound _ _ _ _ _) ?_))
      refine ret_row rfl (w.heap.size + 1) 24 _ (0, 0) _ rfl (heap_row _ H6.out) Try.underlying24 rfl size_sound rfl ?_
      refine ⟨_, us, rfl, HK.out.setRow (.inr (Nat.le_succ _)) _, ?_⟩
      refine HRK.out.other (Kept.setRow (S := One (w.heap.size + 1)) (Kept.refl _ _) (.inl rfl) _) (fun k cur t hk' hh => ?_)
      have hk'' : k = w.heap.size + 1 := hk'
      subst hk''
      rw [H6.out] at hh
      cases hh
      exact ⟨by decide, by decide⟩

end Go.Proofs.Ytpiongdkfebchaa
