/- The reference of layer 8: Weights. -/
import Derived.Test.YtcenfidenmppcaaWinAp
namespace Go.Proofs.Ytcenfidenmppcaa
open Go.RowKit Bx

def RWsInv (s : Int) (m : Nat) (w : World) (a : Act) (w' : World) : Prop :=
  a.defers = [] ∧ a.tmps.size = 39 ∧ a.tmps[0]? = some (.int .i64 s) ∧ a.tmps[1]? = some (.int .i64 (m : Int)) ∧
  ∃ i : Nat, i ≤ m ∧ a.tmps[7]? = some (.int .i64 (i : Int)) ∧ ∃ u, a.tmps[6]? = some u ∧ w'.ownsRow w.heap.size 3 1 u i (ivs ((wl s m).take i)) ∧ Kept Nix w w'

theorem rweight_ok (s i n : Int) (w : World) (hs : 0 ≤ s ∧ s ≤ 2) (h : 0 ≤ i ∧ i < n ∧ n ≤ 65535) : Calls Try.prog 11 #[.int .i64 s, .int .i64 i, .int .i64 n] w fun e w' => e = .returned (.tuple #[.int .i64 (wgt s i n), .int .i64 0]) ∧ w = w' := by
  have := rweight_any s i n w (by omega)
  rwa [wgtE_ok hs h.1 h.2.1 h.2.2, wgtV_ok hs h.1 h.2.1 h.2.2] at this

theorem rws_nums (m i : Nat) (hm : m ≤ 65535) (hi : i < m) : i + 1 ≤ maxLen ∧ (i + 1) * 8 ≤ 140737488355328 := by simp only [maxLen]; omega

set_option maxHeartbeats 1000000 in
theorem rweights_ok (s : Int) (m : Nat) (hs : 0 ≤ s ∧ s ≤ 2) (hm : m ≤ 65535) (w : World) : Calls Try.prog 13 #[.int .i64 s, .int .i64 (m : Int)] w fun e w' => ∃ u, e = .returned (.tuple #[u, .int .i64 0]) ∧ w'.ownsRow w.heap.size 3 1 u m (ivs (wl s m)) ∧ Kept Nix w w' := by
  have s0 : decide (s < 0) = false := decide_eq_false (by omega)
  have s1 : decide (2 < s) = false := decide_eq_false (by omega)
  have hd1 : decide ((m : Int) < 0) = false := decide_eq_false (by omega)
  have hd2 : decide (65535 < (m : Int)) = false := decide_eq_false (by omega)
  have hd3 : decide (65535 < m) = false := decide_eq_false (by omega)
  have HM := Lib.hid hm
  have HS := Lib.hid hs
  have HN := Lib.hid (World.ownsRow_nil w w.heap.size 3 1)
  have HL := Lib.hid (wl_length s m)
  clear hm hs
  go_enter Try.func13, Try.ntmps13
  go_wp2
  clear s0 s1 hd1 hd2 hd3
  refine wp_loop (RWsInv s m w) (fun a _ => m - (intOf (a.tmps.getD 7 undef)).toNat) ?_ ?_
  · exact ⟨rfl, rfl, rfl, rfl, 0, Nat.zero_le _, rfl, _, rfl, HN.out, Kept.refl _ _⟩
  · rintro ⟨tm, df⟩ w1 ⟨rfl, hs, h0, h1, i, hi, h7, u, h6, hou, hkp⟩
    simp only at hs h0 h1 h7 h6
    obtain ⟨f, hf, hg⟩ := fr_open hs
    have e0 := hg _ _ h0
    have e1 := hg _ _ h1
    have e7 := hg _ _ h7
    have e6 := hg _ _ h6
    simp only [List.range, List.range.loop, List.map] at hf
    rw [e0, e1, e7, e6] at hf
    clear e0 e1 e7 e6 hg hs h0 h1 h7 h6
    subst hf
    have HKP := Lib.hid hkp
    have HOU := Lib.hid hou
    clear hkp hou
    by_cases hlt : i < m
    · obtain ⟨n1, n2, n3, n4⟩ := ws_nums m i HM.out hlt
      obtain ⟨n6, n7⟩ := rws_nums m i HM.out hlt
      have N1 := Lib.hid n1
      have RW := Lib.hid (rweight_ok s (i : Int) (m : Int) w1 HS.out n2)
      have N6 := Lib.hid n6
      have N7 := Lib.hid n7
      have HI := Lib.hid hlt
      have HT := Lib.hid (wl_take s m i hlt)
      clear n1 n2 n6 n7 hlt hi
      generalize wgt s (i : Int) (m : Int) = q at *
      go_wp2_with (first
        | (go_at_call 11; refine RW.out.mono ?_; rintro e w5 ⟨rfl, rfl⟩; have O5 := Lib.hid (HOU.out.alloc (.cells #[.int .i64 q] 3)))
        | (refine wpList_app _ rfl _ _ 26 rfl w.heap.size 3 (.int .i64 0) 1 8 Try.underlying26 info_int rfl (by decide) u _ _ rfl O5.out _ 1 1 [.int .i64 q] rfl (src_one w1 _ _ rfl) N6.out N7.out (by have := HKP.out.size; simp; omega) ?_; intro v6 w6 o6 g6 n6; have K6 := Lib.hid (show Kept Nix w w6 from (HKP.out.alloc _).grown g6 (fun kk hkk => .inr (O5.out.lt kk hkk).1)); have O6 := Lib.hid o6; clear o6 g6 n6))
      rw [N1.out]
      refine ⟨⟨rfl, rfl, rfl, rfl, i + 1, HI.out, rfl, v6, rfl, ?_, K6.out⟩, nearer HI.out rfl⟩
      rw [HT.out, ivs_append]
      exact O6.out
    · have hd : decide ((i : Int) < (m : Int)) = false := decide_eq_false (by omega)
      have hd' : decide (i < m) = false := decide_eq_false hlt
      have him : i = m := by omega
      subst him
      have h := HOU.out
      rw [List.take_of_length_le (by rw [HL.out]; exact Nat.le_refl _)] at h
      have HH := Lib.hid h
      clear h hlt hi
      go_wp2
      go_ret2
      exact ⟨_, rfl, HH.out, HKP.out⟩

set_option maxHeartbeats 1000000 in
theorem rweights_none (s n : Int) (w : World) (h : s < 0 ∨ 2 < s) : Calls Try.prog 13 #[.int .i64 s, .int .i64 n] w fun e w' => e = .returned (.tuple #[.slice none 0 0, .int .i64 8]) ∧ w = w' := by
  by_cases b : s < 0
  · have h0 : decide (s < 0) = true := decide_eq_true b
    clear b h
    go_enter Try.func13, Try.ntmps13
    go_wp2
    go_ret2
    exact ⟨rfl, rfl⟩
  · have h0 : decide (s < 0) = false := decide_eq_false b
    have h1 : decide (2 < s) = true := decide_eq_true (by omega)
    clear b h
    go_enter Try.func13, Try.ntmps13
    go_wp2
    go_ret2
    exact ⟨rfl, rfl⟩

set_option maxHeartbeats 1000000 in
theorem rweights_bad (s n : Int) (w : World) (hs : 0 ≤ s ∧ s ≤ 2) (h : n < 0 ∨ 65535 < n) : Calls Try.prog 13 #[.int .i64 s, .int .i64 n] w fun e w' => e = .returned (.tuple #[.slice none 0 0, .int .i64 1]) ∧ w = w' := by
  have s0 : decide (s < 0) = false := decide_eq_false (by omega)
  have s1 : decide (2 < s) = false := decide_eq_false (by omega)
  by_cases b0 : n < 0
  · have h0 : decide (n < 0) = true := decide_eq_true b0
    clear h b0 hs
    go_enter Try.func13, Try.ntmps13
    go_wp2
    go_ret2
    exact ⟨rfl, rfl⟩
  have h0 : decide (n < 0) = false := decide_eq_false b0
  have h1 : decide (65535 < n) = true := decide_eq_true (by omega)
  clear h b0 hs
  go_enter Try.func13, Try.ntmps13
  go_wp2
  go_ret2
  exact ⟨rfl, rfl⟩

theorem rweights_any (s n : Int) (w : World) : Calls Try.prog 13 #[.int .i64 s, .int .i64 n] w (WsPost s n w) := by
  by_cases hs : s < 0 ∨ 2 < s
  · have e : wsE s n = 8 := by unfold wsE; rw [if_pos hs]
    refine (rweights_none s n w hs).mono ?_
    rintro e' w' ⟨rfl, rfl⟩
    exact ⟨_, by rw [e], by rw [wsL_bad (by rw [e]; decide)]; exact World.ownsRow_nil _ _ _ _, Kept.refl _ _⟩
  · by_cases hb : n < 0 ∨ 65535 < n
    · have e : wsE s n = 1 := by unfold wsE; rw [if_neg hs, if_pos hb]
      refine (rweights_bad s n w (by omega) hb).mono ?_
      rintro e' w' ⟨rfl, rfl⟩
      exact ⟨_, by rw [e], by rw [wsL_bad (by rw [e]; decide)]; exact World.ownsRow_nil _ _ _ _, Kept.refl _ _⟩
    · obtain ⟨m, rfl⟩ := Int.eq_ofNat_of_zero_le (show 0 ≤ n by omega)
      have hm : m ≤ 65535 := by omega
      refine (rweights_ok s m (by omega) hm w).mono ?_
      rintro e' w' ⟨u, rfl, ho, k⟩
      exact ⟨_, by rw [wsE_ok (by omega) hm], by rw [wsL_ok (by omega) hm, wl_length]; exact ho, k⟩

end Go.Proofs.Ytcenfidenmppcaa
