/- package window: Weights. -/
import Derived.Test.YtcenfidenmppcaaWinRef
namespace Go.Proofs.Ytcenfidenmppcaa
open Go.RowKit Bx

theorem lit_base (w : World) (base : Nat) (hb : base ≤ w.heap.size) (zs : List Int) (n : Nat) (hn : zs.length = n) (hm : n ≤ maxLen) : (w.alloc (.cells (ivs zs).toArray 3)).ownsRow base 3 1 (.slice (some ⟨w.heap.size, 0, none⟩) n n) n (ivs zs) := by
  have h := World.ownsRow_lit (base := base) (e := 3) (size := 1) w (ivs zs).toArray n hb hm (by simp [ivs, hn])
  simpa using h

theorem fill_cell {w : World} {base g m i : Nat} {L : List Int} (h : w.ownsRow base 3 1 (.slice (some ⟨g, 0, none⟩) m m) m (ivs (fill L i))) (hL : L.length = m) (hi : i < m) : ∃ z, w.cell? ⟨g, i, none⟩ = some z := by
  have e := fill_length L i (by omega)
  exact ⟨_, (h.cellAt i (by omega)).trans (ivs_get _ _ (by omega))⟩

def WsPost (s n : Int) (w : World) (e : Ending) (w' : World) : Prop :=
  ∃ u, e = .returned (.tuple #[u, .int .i64 (wsE s n)]) ∧ w'.ownsRow w.heap.size 3 1 u (wsL s n).length (ivs (wsL s n)) ∧ Kept Nix w w'

def WsInv (T : TypeId) (s : Int) (m g : Nat) (w : World) (a : Act) (w' : World) : Prop :=
  a.defers = [] ∧ a.tmps.size = 36 ∧ a.tmps[1]? = some (.int .i64 (m : Int)) ∧ a.tmps[6]? = some (.iface T (.agg #[])) ∧ a.tmps[7]? = some (.slice (some ⟨g, 0, none⟩) m m) ∧ a.tmps[23]? = some (.int .i64 (m : Int)) ∧
  ∃ i : Nat, i ≤ m ∧ a.tmps[24]? = some (.int .i64 (i : Int)) ∧ w'.ownsRow w.heap.size 3 1 (.slice (some ⟨g, 0, none⟩) m m) m (ivs (fill (wl s m) i)) ∧ Kept Nix w w'

theorem ws_nums (m i : Nat) (hm : m ≤ 65535) (hi : i < m) : wrap64 ((i : Int) + 1) = ((i + 1 : Nat) : Int) ∧ (0 ≤ (i : Int) ∧ (i : Int) < (m : Int) ∧ (m : Int) ≤ 65535) ∧ decide ((i : Int) < (m : Int)) = true ∧ decide (i < m) = true := by
  refine ⟨by unfold wrap64; omega, by omega, decide_eq_true (by omega), decide_eq_true hi⟩

set_option maxHeartbeats 1000000 in
theorem weights_flat (m : Nat) (hm : m ≤ 65535) (w : World) : Calls Try.prog 12 #[.int .i64 0, .int .i64 (m : Int)] w fun e w' => ∃ u, e = .returned (.tuple #[u, .int .i64 0]) ∧ w'.ownsRow w.heap.size 3 1 u m (ivs (wl 0 m)) ∧ Kept Nix w w' := by
  have hmt := meth_flat
  have hmk := make_int m (by omega)
  have hd1 : decide ((m : Int) < 0) = false := decide_eq_false (by omega)
  have hd2 : decide (65535 < (m : Int)) = false := decide_eq_false (by omega)
  have hd3 : decide (65535 < m) = false := decide_eq_false (by omega)
  have HM := Lib.hid hm
  have HL := Lib.hid (wl_length 0 m)
  clear hm
  go_enter Try.func12, Try.ntmps12
  go_wp2_with (first
    | (go_at_call 18; refine (curve_flat _).mono ?_; rintro e w2 ⟨rfl, rfl⟩)
    | (go_at_call 19; refine (known_flat _).mono ?_; rintro e w3 ⟨rfl, k3⟩; have K3 := Lib.hid k3; clear k3))
  clear hd1 hd2 hd3 hmk
  have HG := Lib.hid K3.out.size
  refine wp_loop (WsInv 47 0 m w3.heap.size w) (fun a _ => m - (intOf (a.tmps.getD 24 undef)).toNat) ?_ ?_
  · refine ⟨rfl, rfl, rfl, rfl, rfl, rfl, 0, Nat.zero_le _, rfl, ?_, K3.out.alloc _⟩
    rw [fill_zero, HL.out]
    exact lit_base w3 _ HG.out _ m (by simp) (by have := HM.out; simp only [maxLen]; omega)
  · rintro ⟨tm, df⟩ w1 ⟨rfl, hs, h1, h6, h7, h23, i, hi, h24, ho, hk⟩
    simp only at hs h1 h6 h7 h23 h24
    obtain ⟨f, hf, hg⟩ := fr_open hs
    have e1 := hg _ _ h1
    have e6 := hg _ _ h6
    have e7 := hg _ _ h7
    have e23 := hg _ _ h23
    have e24 := hg _ _ h24
    simp only [List.range, List.range.loop, List.map] at hf
    rw [e1, e6, e7, e23, e24] at hf
    clear e1 e6 e7 e23 e24 hg hs h1 h6 h7 h23 h24
    subst hf
    have HK := Lib.hid hk
    have HO := Lib.hid ho
    clear ho hk K3
    generalize w3.heap.size = g at *
    by_cases hlt : i < m
    · obtain ⟨n1, n2, n3, n4⟩ := ws_nums m i HM.out hlt
      have N1 := Lib.hid n1
      have N2 := Lib.hid n2
      have HI := Lib.hid hlt
      have hb : (i : Int) < (m : Int) := n2.2.1
      clear n1 n2 hlt hi
      go_wp2_with (go_at_call 37; refine (flat_any _ _ _ N2.out).mono ?_; rintro e w5 ⟨rfl, k5⟩
                   have O5 := Lib.hid (k5.owns HO.out (fun _ _ h => h)); have K5 := Lib.hid (nix_trans HK.out k5); clear k5
                   have hz : w5.frozen? ⟨g, i, none⟩ = false := O5.out.frozenAt i
                   obtain ⟨z, c1⟩ := fill_cell O5.out HL.out HI.out)
      rw [N1.out]
      refine ⟨⟨rfl, rfl, rfl, rfl, rfl, rfl, i + 1, HI.out, rfl, ?_, K5.out.setCell (.inr HG.out) _⟩, nearer HI.out rfl⟩
      rw [← fill_set _ _ (by rw [HL.out]; exact HI.out), wl_get _ _ _ HI.out, ← ivs_set]
      exact (O5.out.stored i _).1
    · have hd : decide ((i : Int) < (m : Int)) = false := decide_eq_false (by omega)
      have hd' : decide (i < m) = false := decide_eq_false hlt
      have him : i = m := by omega
      subst him
      have h := HO.out
      rw [show fill (wl 0 i) i = wl 0 i by rw [show fill (wl 0 i) i = fill (wl 0 i) (wl 0 i).length by rw [HL.out], fill_last]] at h
      have HH := Lib.hid h
      clear h hlt hi
      go_wp2
      go_ret2
      exact ⟨_, rfl, HH.out, HK.out⟩

set_option maxHeartbeats 1000000 in
theorem weights_tent (m : Nat) (hm : m ≤ 65535) (w : World) : Calls Try.prog 12 #[.int .i64 1, .int .i64 (m : Int)] w fun e w' => ∃ u, e = .returned (.tuple #[u, .int .i64 0]) ∧ w'.ownsRow w.heap.size 3 1 u m (ivs (wl 1 m)) ∧ Kept Nix w w' := by
  have hmt := meth_tent
  have hmk := make_int m (by omega)
  have hd1 : decide ((m : Int) < 0) = false := decide_eq_false (by omega)
  have hd2 : decide (65535 < (m : Int)) = false := decide_eq_false (by omega)
  have hd3 : decide (65535 < m) = false := decide_eq_false (by omega)
  have HM := Lib.hid hm
  have HL := Lib.hid (wl_length 1 m)
  clear hm
  go_enter Try.func12, Try.ntmps12
  go_wp2_with (first
    | (go_at_call 18; refine (curve_tent _).mono ?_; rintro e w2 ⟨rfl, rfl⟩)
    | (go_at_call 19; refine (known_tent _).mono ?_; rintro e w3 ⟨rfl, k3⟩; have K3 := Lib.hid k3; clear k3))
  clear hd1 hd2 hd3 hmk
  have HG := Lib.hid K3.out.size
  refine wp_loop (WsInv 48 1 m w3.heap.size w) (fun a _ => m - (intOf (a.tmps.getD 24 undef)).toNat) ?_ ?_
  · refine ⟨rfl, rfl, rfl, rfl, rfl, rfl, 0, Nat.zero_le _, rfl, ?_, K3.out.alloc _⟩
    rw [fill_zero, HL.out]
    exact lit_base w3 _ HG.out _ m (by simp) (by have := HM.out; simp only [maxLen]; omega)
  · rintro ⟨tm, df⟩ w1 ⟨rfl, hs, h1, h6, h7, h23, i, hi, h24, ho, hk⟩
    simp only at hs h1 h6 h7 h23 h24
    obtain ⟨f, hf, hg⟩ := fr_open hs
    have e1 := hg _ _ h1
    have e6 := hg _ _ h6
    have e7 := hg _ _ h7
    have e23 := hg _ _ h23
    have e24 := hg _ _ h24
    simp only [List.range, List.range.loop, List.map] at hf
    rw [e1, e6, e7, e23, e24] at hf
    clear e1 e6 e7 e23 e24 hg hs h1 h6 h7 h23 h24
    subst hf
    have HK := Lib.hid hk
    have HO := Lib.hid ho
    clear ho hk K3
    generalize w3.heap.size = g at *
    by_cases hlt : i < m
    · obtain ⟨n1, n2, n3, n4⟩ := ws_nums m i HM.out hlt
      have N1 := Lib.hid n1
      have N2 := Lib.hid n2
      have HI := Lib.hid hlt
      have hb : (i : Int) < (m : Int) := n2.2.1
      clear n1 n2 hlt hi
      go_wp2_with (go_at_call 38; refine (tent_any _ _ _ N2.out).mono ?_; rintro e w5 ⟨rfl, k5⟩
                   have O5 := Lib.hid (k5.owns HO.out (fun _ _ h => h)); have K5 := Lib.hid (nix_trans HK.out k5); clear k5
                   have hz : w5.frozen? ⟨g, i, none⟩ = false := O5.out.frozenAt i
                   obtain ⟨z, c1⟩ := fill_cell O5.out HL.out HI.out)
      rw [N1.out]
      refine ⟨⟨rfl, rfl, rfl, rfl, rfl, rfl, i + 1, HI.out, rfl, ?_, K5.out.setCell (.inr HG.out) _⟩, nearer HI.out rfl⟩
      rw [← fill_set _ _ (by rw [HL.out]; exact HI.out), wl_get _ _ _ HI.out, ← ivs_set]
      exact (O5.out.stored i _).1
    · have hd : decide ((i : Int) < (m : Int)) = false := decide_eq_false (by omega)
      have hd' : decide (i < m) = false := decide_eq_false hlt
      have him : i = m := by omega
      subst him
      have h := HO.out
      rw [show fill (wl 1 i) i = wl 1 i by rw [show fill (wl 1 i) i = fill (wl 1 i) (wl 1 i).length by rw [HL.out], fill_last]] at h
      have HH := Lib.hid h
      clear h hlt hi
      go_wp2
      go_ret2
      exact ⟨_, rfl, HH.out, HK.out⟩

set_option maxHeartbeats 1000000 in
theorem weights_hill (m : Nat) (hm : m ≤ 65535) (w : World) : Calls Try.prog 12 #[.int .i64 2, .int .i64 (m : Int)] w fun e w' => ∃ u, e = .returned (.tuple #[u, .int .i64 0]) ∧ w'.ownsRow w.heap.size 3 1 u m (ivs (wl 2 m)) ∧ Kept Nix w w' := by
  have hmt := meth_hill
  have hmk := make_int m (by omega)
  have hd1 : decide ((m : Int) < 0) = false := decide_eq_false (by omega)
  have hd2 : decide (65535 < (m : Int)) = false := decide_eq_false (by omega)
  have hd3 : decide (65535 < m) = false := decide_eq_false (by omega)
  have HM := Lib.hid hm
  have HL := Lib.hid (wl_length 2 m)
  clear hm
  go_enter Try.func12, Try.ntmps12
  go_wp2_with (first
    | (go_at_call 18; refine (curve_hill _).mono ?_; rintro e w2 ⟨rfl, rfl⟩)
    | (go_at_call 19; refine (known_hill _).mono ?_; rintro e w3 ⟨rfl, k3⟩; have K3 := Lib.hid k3; clear k3))
  clear hd1 hd2 hd3 hmk
  have HG := Lib.hid K3.out.size
  refine wp_loop (WsInv 49 2 m w3.heap.size w) (fun a _ => m - (intOf (a.tmps.getD 24 undef)).toNat) ?_ ?_
  · refine ⟨rfl, rfl, rfl, rfl, rfl, rfl, 0, Nat.zero_le _, rfl, ?_, K3.out.alloc _⟩
    rw [fill_zero, HL.out]
    exact lit_base w3 _ HG.out _ m (by simp) (by have := HM.out; simp only [maxLen]; omega)
  · rintro ⟨tm, df⟩ w1 ⟨rfl, hs, h1, h6, h7, h23, i, hi, h24, ho, hk⟩
    simp only at hs h1 h6 h7 h23 h24
    obtain ⟨f, hf, hg⟩ := fr_open hs
    have e1 := hg _ _ h1
    have e6 := hg _ _ h6
    have e7 := hg _ _ h7
    have e23 := hg _ _ h23
    have e24 := hg _ _ h24
    simp only [List.range, List.range.loop, List.map] at hf
    rw [e1, e6, e7, e23, e24] at hf
    clear e1 e6 e7 e23 e24 hg hs h1 h6 h7 h23 h24
    subst hf
    have HK := Lib.hid hk
    have HO := Lib.hid ho
    clear ho hk K3
    generalize w3.heap.size = g at *
    by_cases hlt : i < m
    · obtain ⟨n1, n2, n3, n4⟩ := ws_nums m i HM.out hlt
      have N1 := Lib.hid n1
      have N2 := Lib.hid n2
      have HI := Lib.hid hlt
      have hb : (i : Int) < (m : Int) := n2.2.1
      clear n1 n2 hlt hi
      go_wp2_with (go_at_call 39; refine (hill_any _ _ _ N2.out).mono ?_; rintro e w5 ⟨rfl, k5⟩
                   have O5 := Lib.hid (k5.owns HO.out (fun _ _ h => h)); have K5 := Lib.hid (nix_trans HK.out k5); clear k5
                   have hz : w5.frozen? ⟨g, i, none⟩ = false := O5.out.frozenAt i
                   obtain ⟨z, c1⟩ := fill_cell O5.out HL.out HI.out)
      rw [N1.out]
      refine ⟨⟨rfl, rfl, rfl, rfl, rfl, rfl, i + 1, HI.out, rfl, ?_, K5.out.setCell (.inr HG.out) _⟩, nearer HI.out rfl⟩
      rw [← fill_set _ _ (by rw [HL.out]; exact HI.out), wl_get _ _ _ HI.out, ← ivs_set]
      exact (O5.out.stored i _).1
    · have hd : decide ((i : Int) < (m : Int)) = false := decide_eq_false (by omega)
      have hd' : decide (i < m) = false := decide_eq_false hlt
      have him : i = m := by omega
      subst him
      have h := HO.out
      rw [show fill (wl 2 i) i = wl 2 i by rw [show fill (wl 2 i) i = fill (wl 2 i) (wl 2 i).length by rw [HL.out], fill_last]] at h
      have HH := Lib.hid h
      clear h hlt hi
      go_wp2
      go_ret2
      exact ⟨_, rfl, HH.out, HK.out⟩

set_option maxHeartbeats 1000000 in
theorem weights_none (s n : Int) (w : World) (h : s < 0 ∨ 2 < s) : Calls Try.prog 12 #[.int .i64 s, .int .i64 n] w fun e w' => e = .returned (.tuple #[.slice none 0 0, .int .i64 8]) ∧ Kept Nix w w' := by
  have C := Lib.hid (fun w => curve_none s (beq_false_of_ne (by omega)) (beq_false_of_ne (by omega)) (beq_false_of_ne (by omega)) w)
  clear h
  go_enter Try.func12, Try.ntmps12
  go_wp2_with (first
    | (go_at_call 18; refine (C.out _).mono ?_; rintro e w2 ⟨rfl, rfl⟩)
    | (go_at_call 19; refine (known_none _).mono ?_; rintro e w3 ⟨rfl, k3⟩))
  go_ret2
  exact ⟨rfl, k3⟩

set_option maxHeartbeats 1000000 in
theorem weights_bad (s n : Int) (V : Value) (w : World) (C : ∀ w, Calls Try.prog 18 #[.int .i64 s] w fun e w' => e = .returned V ∧ w = w') (K : ∀ w, Calls Try.prog 19 #[V] w fun e w' => e = .returned (.bool true) ∧ Kept Nix w w')
    (h : n < 0 ∨ 65535 < n) : Calls Try.prog 12 #[.int .i64 s, .int .i64 n] w fun e w' => e = .returned (.tuple #[.slice none 0 0, .int .i64 1]) ∧ Kept Nix w w' := by
  have C := Lib.hid C
  have K := Lib.hid K
  by_cases b0 : n < 0
  · have h0 : decide (n < 0) = true := decide_eq_true b0
    clear h b0
    go_enter Try.func12, Try.ntmps12
    go_wp2_with (first
      | (go_at_call 18; refine (C.out _).mono ?_; rintro e w2 ⟨rfl, rfl⟩)
      | (go_at_call 19; refine (K.out _).mono ?_; rintro e w3 ⟨rfl, k3⟩))
    go_ret2
    exact ⟨rfl, k3⟩
  have h0 : decide (n < 0) = false := decide_eq_false b0
  have h1 : decide (65535 < n) = true := decide_eq_true (by omega)
  clear h b0
  go_enter Try.func12, Try.ntmps12
  go_wp2_with (first
    | (go_at_call 18; refine (C.out _).mono ?_; rintro e w2 ⟨rfl, rfl⟩)
    | (go_at_call 19; refine (K.out _).mono ?_; rintro e w3 ⟨rfl, k3⟩))
  go_ret2
  exact ⟨rfl, k3⟩

theorem weights_any (s n : Int) (w : World) : Calls Try.prog 12 #[.int .i64 s, .int .i64 n] w (WsPost s n w) := by
  by_cases hs : s < 0 ∨ 2 < s
  · have e : wsE s n = 8 := by unfold wsE; rw [if_pos hs]
    refine (weights_none s n w hs).mono ?_
    rintro e' w' ⟨rfl, k⟩
    exact ⟨_, by rw [e], by rw [wsL_bad (by rw [e]; decide)]; exact World.ownsRow_nil _ _ _ _, k⟩
  · by_cases hb : n < 0 ∨ 65535 < n
    · have e : wsE s n = 1 := by unfold wsE; rw [if_neg hs, if_pos hb]
      have h : Calls Try.prog 12 #[.int .i64 s, .int .i64 n] w fun e w' => e = .returned (.tuple #[.slice none 0 0, .int .i64 1]) ∧ Kept Nix w w' := by
        rcases (show s = 0 ∨ s = 1 ∨ s = 2 by omega) with rfl | rfl | rfl
        · exact weights_bad _ n _ w curve_flat known_flat hb
        · exact weights_bad _ n _ w curve_tent known_tent hb
        · exact weights_bad _ n _ w curve_hill known_hill hb
      refine h.mono ?_
      rintro e' w' ⟨rfl, k⟩
      exact ⟨_, by rw [e], by rw [wsL_bad (by rw [e]; decide)]; exact World.ownsRow_nil _ _ _ _, k⟩
    · obtain ⟨m, rfl⟩ := Int.eq_ofNat_of_zero_le (show 0 ≤ n by omega)
      have hm : m ≤ 65535 := by omega
      have h : Calls Try.prog 12 #[.int .i64 s, .int .i64 (m : Int)] w fun e w' => ∃ u, e = .returned (.tuple #[u, .int .i64 0]) ∧ w'.ownsRow w.heap.size 3 1 u m (ivs (wl s m)) ∧ Kept Nix w w' := by
        rcases (show s = 0 ∨ s = 1 ∨ s = 2 by omega) with rfl | rfl | rfl
        · exact weights_flat m hm w
        · exact weights_tent m hm w
        · exact weights_hill m hm w
      refine h.mono ?_
      rintro e' w' ⟨u, rfl, ho, k⟩
      exact ⟨_, by rw [wsE_ok (by omega) hm], by rw [wsL_ok (by omega) hm, wl_length]; exact ho, k⟩

/-- The weights of a shape that is one. -/
theorem weights_ok (s : Int) (m : Nat) (w : World) (hs : 0 ≤ s ∧ s ≤ 2) (hm : m ≤ 65535) : Calls Try.prog 12 #[.int .i64 s, .int .i64 (m : Int)] w fun e w' => ∃ u, e = .returned (.tuple #[u, .int .i64 0]) ∧ w'.ownsRow w.heap.size 3 1 u m (ivs (wl s m)) ∧ Kept Nix w w' := by
  rcases (show s = 0 ∨ s = 1 ∨ s = 2 by omega) with rfl | rfl | rfl
  · exact weights_flat m hm w
  · exact weights_tent m hm w
  · exact weights_hill m hm w

end Go.Proofs.Ytcenfidenmppcaa
