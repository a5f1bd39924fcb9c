/- The reference of layer 6: Join. -/
import Derived.Test.YtpiongdkfebchaaRefJoinR
import Derived.Test.YtpiongdkfebchaaJoinAny
namespace Go.Proofs.Ytpiongdkfebchaa
open Go.RowKit Bx

set_option maxRecDepth 10000 in
set_option maxHeartbeats 2000000 in
theorem rjoin_bad (r d r' d' : Int) (v v' : Value) (L M : List (List Int)) (w : World) (h : Chs w v L) (h' : Chs w v' M) (e0 : Int) (he : joinE r d L.length r' d' M.length = e0) (hne : e0 ≠ 0) :
    Calls Try.prog 26 #[.agg #[.int .i64 r, .int .i64 d, v], .agg #[.int .i64 r', .int .i64 d', v']] w fun e w' => e = .returned (.tuple #[.agg #[.int .i64 0, .int .i64 0, .slice none 0 0], .int .i64 e0]) ∧ Kept Nix w w' := by
  obtain ⟨ao, cap, rfl, _, _, _⟩ := h.open
  obtain ⟨bo, bcap, rfl, _, _, _⟩ := h'.open
  obtain ⟨k0, h2, h3, h4, hsz⟩ := join_start w #[.int .i64 r, .int .i64 d, .slice ao L.length cap] #[.int .i64 r', .int .i64 d', .slice bo M.length bcap] _ rfl
  have K0 := Lib.hid k0
  have H4 := Lib.hid h4
  clear k0 h2 h3 h4 hsz h h'
  unfold joinE at he
  by_cases c1 : L.length = M.length
  · have t1 : ((L.length : Int) != (M.length : Int)) = false := by simp [c1]
    rw [if_neg (by simp [c1])] at he
    by_cases c2 : d = d'
    · subst c2
      have t2 : (d != d) = false := by simp
      rw [if_neg (by simp)] at he
      by_cases c3 : r = r'
      · rw [if_neg (by simp [c3])] at he
        exact absurd he.symm hne
      · have t3 : (r != r') = true := bne_iff_ne.2 c3
        rw [if_pos c3] at he
        subst he
        clear c1 c3 hne
        go_enter Try.func26, Try.ntmps26
        go_wp2_with (first | (refine wpList_store_row rfl 24 _ _ rfl _ _ rfl rfl 24 _ H4.out size_sound rfl (one_sound _ _ _ _ _) ?_))
        exact bodyPost_ret (results_sound1 rfl _ _ (w.heap.size + 1 + 1) _ 11 rfl (heap_row _ H4.out) rfl rfl) rfl ⟨rfl, K0.out.setRow (.inr (by omega)) _⟩
    · have t2 : (d != d') = true := bne_iff_ne.2 c2
      rw [if_pos c2] at he
      subst he
      clear c1 c2 hne
      go_enter Try.func26, Try.ntmps26
      go_wp2_with (first | (refine wpList_store_row rfl 24 _ _ rfl _ _ rfl rfl 24 _ H4.out size_sound rfl (one_sound _ _ _ _ _) ?_))
      exact bodyPost_ret (results_sound1 rfl _ _ (w.heap.size + 1 + 1) _ 10 rfl (heap_row _ H4.out) rfl rfl) rfl ⟨rfl, K0.out.setRow (.inr (by omega)) _⟩
  · have t1 : ((L.length : Int) != (M.length : Int)) = true := bne_iff_ne.2 (by omega)
    rw [if_pos c1] at he
    subst he
    clear c1 hne
    go_enter Try.func26, Try.ntmps26
    go_wp2_with (first | (refine wpList_store_row rfl 24 _ _ rfl _ _ rfl rfl 24 _ H4.out size_sound rfl (one_sound _ _ _ _ _) ?_))
    exact bodyPost_ret (results_sound1 rfl _ _ (w.heap.size + 1 + 1) _ 12 rfl (heap_row _ H4.out) rfl rfl) rfl ⟨rfl, K0.out.setRow (.inr (by omega)) _⟩

def RJInv (r d r' d' : Int) (v v' : Value) (L M : List (List Int)) (w : World) (a : Act) (w' : World) : Prop :=
  ∃ i : Nat, i ≤ L.length ∧ RJMid w.heap.size (w.heap.size + 1) (w.heap.size + 1 + 1) (w.heap.size + 1 + 1 + 1) i a ∧ Kept Nix w w' ∧ w'.heap[w.heap.size]? = some (.cells #[.int .i64 r, .int .i64 d, v] 24 (0, 0)) ∧ w'.heap[w.heap.size + 1]? = some (.cells #[.int .i64 r', .int .i64 d', v'] 24 (0, 0)) ∧ w'.heap[w.heap.size + 1 + 1]? = some (.cells #[.int .i64 0, .int .i64 0, .slice none 0 0] 24 (0, 0)) ∧
    ∃ vr us, w'.heap[w.heap.size + 1 + 1 + 1]? = some (.cells #[.int .i64 r, .int .i64 d, vr] 24 (0, 0)) ∧ Rack w.heap.size w' vr us (joinTo L M i)

theorem row_le {L : List (List Int)} {i : Nat} (h : i < L.length) (hr : ∀ c ∈ L, c.length ≤ 1000000) : (L.getD i []).length ≤ 1000000 := by
  simp only [List.getD, List.getElem?_eq_getElem h, Option.getD_some]
  exact hr _ (List.getElem_mem h)

set_option maxRecDepth 10000 in
set_option maxHeartbeats 4000000 in
theorem rjoin_good (r d : Int) (v v' : Value) (L M : List (List Int)) (w : World) (h : Chs w v L) (h' : Chs w v' M) (hlen : L.length = M.length) (hl : L.length < 1099511627776) (hr1 : ∀ c ∈ L, c.length ≤ 1000000) (hr2 : ∀ c ∈ M, c.length ≤ 1000000) :
    Calls Try.prog 26 #[.agg #[.int .i64 r, .int .i64 d, v], .agg #[.int .i64 r, .int .i64 d, v']] w fun e w' => ∃ v2 us, e = .returned (.tuple #[.agg #[.int .i64 r, .int .i64 d, v2], .int .i64 0]) ∧ Kept Nix w w' ∧ Rack w.heap.size w' v2 us (joinL L M) := by
  obtain ⟨ao, cap, rfl, _, _, _⟩ := h.open
  obtain ⟨bo, bcap, rfl, _, _, _⟩ := h'.open
  have HCA := Lib.hid h
  have HCB := Lib.hid h'
  have HR1 := Lib.hid hr1
  have HR2 := Lib.hid hr2
  have HLEN := Lib.hid hlen
  have HLL := Lib.hid hl
  obtain ⟨k0, h2, h3, h4, hsz⟩ := join_start w #[.int .i64 r, .int .i64 d, .slice ao L.length cap] #[.int .i64 r, .int .i64 d, .slice bo M.length bcap] _ rfl
  have K0 := Lib.hid k0
  have H2 := Lib.hid h2
  have H3 := Lib.hid h3
  have H4 := Lib.hid h4
  have HSZ := Lib.hid hsz
  have t1 : ((L.length : Int) != (M.length : Int)) = false := by simp [hlen]
  have t2 : (d != d) = false := by simp
  have t3 : (r != r) = false := by simp
  clear k0 h2 h3 h4 hsz h h' hlen hr1 hr2 hl
  go_enter Try.func26, Try.ntmps26
  go_wp2
  have k5 : Kept Nix w ((((w.alloc (.cells #[.int .i64 r, .int .i64 d, .slice ao L.length cap] 24)).alloc (.cells #[.int .i64 r, .int .i64 d, .slice bo M.length bcap] 24)).alloc (.cells #[.int .i64 0, .int .i64 0, .slice none 0 0] 24)).alloc (.cells #[.int .i64 r, .int .i64 d, .slice none 0 0] 24)) := K0.out.alloc _
  have b2 := (Below.heap_alloc _ (.cells #[.int .i64 r, .int .i64 d, .slice none 0 0] 24) _ (lt_of_heap H2.out)).trans H2.out
  have b3 := (Below.heap_alloc _ (.cells #[.int .i64 r, .int .i64 d, .slice none 0 0] 24) _ (lt_of_heap H3.out)).trans H3.out
  have b4 := (Below.heap_alloc _ (.cells #[.int .i64 r, .int .i64 d, .slice none 0 0] 24) _ (lt_of_heap H4.out)).trans H4.out
  have b6 : ((((w.alloc (.cells #[.int .i64 r, .int .i64 d, .slice ao L.length cap] 24)).alloc (.cells #[.int .i64 r, .int .i64 d, .slice bo M.length bcap] 24)).alloc (.cells #[.int .i64 0, .int .i64 0, .slice none 0 0] 24)).alloc (.cells #[.int .i64 r, .int .i64 d, .slice none 0 0] 24)).heap[w.heap.size + 1 + 1 + 1]? = some (.cells #[.int .i64 r, .int .i64 d, .slice none 0 0] 24 (0, 0)) := heap_new (by simp)
  generalize ((((w.alloc (.cells #[.int .i64 r, .int .i64 d, .slice ao L.length cap] 24)).alloc (.cells #[.int .i64 r, .int .i64 d, .slice bo M.length bcap] 24)).alloc (.cells #[.int .i64 0, .int .i64 0, .slice none 0 0] 24)).alloc (.cells #[.int .i64 r, .int .i64 d, .slice none 0 0] 24)) = w0 at *
  refine wp_loop (RJInv r d r d (.slice ao L.length cap) (.slice bo M.length bcap) L M w) (fun a _ => L.length - (intOf (a.tmps.getD 7 undef)).toNat) ?_ ?_
  · exact ⟨0, Nat.zero_le _, ⟨rfl, rfl, rfl, rfl, rfl, rfl, rfl⟩, k5, b2, b3, b4, _, [], b6, rack_nil _ _⟩
  · clear k5 b2 b3 b4 b6 K0 H2 H3 H4 HSZ t1 t2 t3
    rintro ⟨tm, df⟩ w1 ⟨i, hi, ⟨rfl, hs, e2, e3, e4, e6, e7⟩, hk, h2, h3, h4, vr, us, h6, hrk⟩
    simp only at hs e2 e3 e4 e6 e7
    obtain ⟨fr, hf, hg⟩ := fr_open hs
    have g2 := hg _ _ e2
    have g3 := hg _ _ e3
    have g4 := hg _ _ e4
    have g6 := hg _ _ e6
    have g7 := hg _ _ e7
    simp only [List.range, List.range.loop, List.map] at hf
    rw [g2, g3, g4, g6, g7] at hf
    clear g2 g3 g4 g6 g7 hg hs e2 e3 e4 e6 e7
    subst hf
    have HK := Lib.hid hk
    have H2 := Lib.hid h2
    have H3 := Lib.hid h3
    have H4 := Lib.hid h4
    have H6 := Lib.hid h6
    have HRK := Lib.hid hrk
    have x2 : w1.cell? ⟨w.heap.size, 2, none⟩ = some (.slice ao L.length cap) := (cell_of h2).trans rfl
    by_cases hlt : i < L.length
    · have hd : decide (i < L.length) = true := decide_eq_true hlt
      obtain ⟨b, off, rfl, hb, A, C, hh⟩ := HCA.out.at (by omega)
      have hltm : i < M.length := by have := HLEN.out; omega
      obtain ⟨b', off', rfl, hb', A', C', hh'⟩ := HCB.out.at (by omega)
      obtain ⟨hcell, hsl⟩ := hh i hlt
      obtain ⟨hcell', hsl'⟩ := hh' i hltm
      have hus : us.length = i := hrk.2.1.trans (joinTo_len L M i)
      have HB := Lib.hid (row_bounds hlt HLL.out)
      rw [← hus] at HB
      have HI := Lib.hid hlt
      have HIM := Lib.hid hltm
      have HBB := Lib.hid (And.intro hb hb')
      have HCC := Lib.hid (And.intro hcell hcell')
      have HSS := Lib.hid (And.intro hsl hsl')
      clear hh hh' hb hb' hi hlt hltm hk h2 h3 h4 h6 hrk hcell hcell' hsl hsl' hus
      go_upto_region 11 with fail
      clear x2 hd
      refine rjoin_push r d r d _ _ _ _ b off b' off' i _ _ cap bcap _ (C i) _ (C' i) (A i) (A' i) (L.getD i []) (M.getD i []) us vr (joinTo L M i) w w1 _ ⟨rfl, rfl, rfl, rfl, rfl, rfl, rfl⟩ HK.out H2.out H3.out H6.out HRK.out ((World.cell?_of_block (HK.out.block _ HBB.out.1 id)).trans HCC.out.1) ((World.cell?_of_block (HK.out.block _ HBB.out.2 id)).trans HCC.out.2) (HSS.out.1.nix HK.out) (HSS.out.2.nix HK.out) HBB.out.1 HBB.out.2 (Nat.le_trans (Nat.le_succ _) (Nat.le_trans (Nat.le_succ _) (Nat.le_succ _))) (by omega) (by omega) HI.out HIM.out rfl rfl (row_le HI.out HR1.out) (row_le HIM.out HR2.out) HB.out _ ?_
      rintro ⟨tm, df⟩ w4 v6 u ⟨rfl, hs, e2, e3, e4, e6, e7⟩ ⟨k4, o4, h64, rk4⟩
      simp only at hs e2 e3 e4 e6 e7
      obtain ⟨fr4, hf, hg⟩ := fr_open hs
      have g2 := hg _ _ e2
      have g3 := hg _ _ e3
      have g4 := hg _ _ e4
      have g6 := hg _ _ e6
      have g7 := hg _ _ e7
      simp only [List.range, List.range.loop, List.map] at hf
      rw [g2, g3, g4, g6, g7] at hf
      clear g2 g3 g4 g6 g7 hg hs e2 e3 e4 e6 e7
      subst hf
      have a2 := o4 _ _ _ (by omega) (by decide) H2.out
      have a3 := o4 _ _ _ (by omega) (by decide) H3.out
      have a4 := o4 _ _ _ (by omega) (by decide) H4.out
      rw [← joinTo_succ] at rk4
      have K4 := Lib.hid k4
      have A2 := Lib.hid a2
      have A3 := Lib.hid a3
      have A4 := Lib.hid a4
      have A6 := Lib.hid h64
      have RK4 := Lib.hid rk4
      have HW := Lib.hid (show wrap64 ((i : Int) + 1) = ((i + 1 : Nat) : Int) by rw [w64_in _ (by have := HI.out; have := HLL.out; omega)]; omega)
      clear k4 o4 h64 rk4 a2 a3 a4
      go_wp2
      rw [HW.out]
      exact ⟨⟨i + 1, HI.out, ⟨rfl, rfl, rfl, rfl, rfl, rfl, rfl⟩, K4.out, A2.out, A3.out, A4.out, _, _, A6.out, RK4.out⟩, nearer HI.out rfl⟩
    · have hd : decide (i < L.length) = false := decide_eq_false hlt
      have hiL : i = L.length := by omega
      subst hiL
      have hc0 : w1.cell? ⟨w.heap.size + 1 + 1 + 1, 0, none⟩ = some (.int .i64 r) := by rw [cell_of h6]; rfl
      have hc1 : w1.cell? ⟨w.heap.size + 1 + 1 + 1, 1, none⟩ = some (.int .i64 d) := by rw [cell_of h6]; rfl
      obtain ⟨vo, vcap, rfl, _, _⟩ := owns_shape hrk.1
      have hc2 : w1.cell? ⟨w.heap.size + 1 + 1 + 1, 2, none⟩ = some (.slice vo us.length vcap) := by rw [cell_of h6]; rfl
      clear hlt hi hk h2 h3 h4 h6 hrk
      go_wp2_with (first | (refine wpList_store_row rfl 24 _ _ rfl _ _ rfl rfl 24 _ H4.out size_sound rfl (one_sound _ _ _ _ _) ?_))
      refine bodyPost_ret (results_sound1 rfl _ _ (w.heap.size + 1 + 1) _ 0 rfl (heap_row _ H4.out) rfl rfl) rfl ⟨_, us, rfl, HK.out.setRow (.inr (Nat.le_trans (Nat.le_succ _) (Nat.le_succ _))) _, ?_⟩
      refine HRK.out.other (Kept.setRow (S := One (w.heap.size + 1 + 1)) (Kept.refl _ _) (.inl rfl) _) (fun k cur t hk' hh => ?_)
      have hk'' : k = w.heap.size + 1 + 1 := hk'
      subst hk''
      rw [H4.out] at hh
      cases hh
      exact ⟨by decide, by decide⟩

theorem rjoin_any (r d r' d' : Int) (v v' : Value) (L M : List (List Int)) (w : World) (h : Chs w v L) (h' : Chs w v' M) (hl : L.length < 1099511627776) (hr1 : ∀ c ∈ L, c.length ≤ 1000000) (hr2 : ∀ c ∈ M, c.length ≤ 1000000) :
    Calls Try.prog 26 #[.agg #[.int .i64 r, .int .i64 d, v], .agg #[.int .i64 r', .int .i64 d', v']] w fun e w' => ∃ R D v2 L2, e = .returned (.tuple #[.agg #[.int .i64 R, .int .i64 D, v2], .int .i64 (joinE r d L.length r' d' M.length)]) ∧ Kept Nix w w' ∧ Chs w' v2 L2 ∧ (R, D, L2) = joinS r d L r' d' M := by
  by_cases he : joinE r d L.length r' d' M.length = 0
  · have h3 : L.length = M.length ∧ d = d' ∧ r = r' := by
      unfold joinE at he
      split at he
      · omega
      · split at he
        · omega
        · split at he
          · omega
          · rename_i a b c
            exact ⟨Decidable.not_not.1 a, Decidable.not_not.1 b, Decidable.not_not.1 c⟩
    obtain ⟨hlen, rfl, rfl⟩ := h3
    refine (rjoin_good r d v v' L M w h h' hlen hl hr1 hr2).mono fun e w' ⟨v2, us, h1, h2, h3⟩ => ⟨r, d, v2, joinL L M, by rw [he]; exact h1, h2, h3.chs, ?_⟩
    unfold joinS
    rw [if_pos he]
  · refine (rjoin_bad r d r' d' v v' L M w h h' _ rfl he).mono fun e w' ⟨h1, h2⟩ => ⟨0, 0, .slice none 0 0, [], h1, h2, chs_nil _, ?_⟩
    unfold joinS
    rw [if_neg he]

end Go.Proofs.Ytpiongdkfebchaa
