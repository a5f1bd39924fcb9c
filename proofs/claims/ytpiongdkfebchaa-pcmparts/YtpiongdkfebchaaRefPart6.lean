/- The reference of layer 6: Part. -/
import Derived.Test.YtpiongdkfebchaaPcmPart
import Derived.Test.YtpiongdkfebchaaRefPcm
import Derived.Test.YtpiongdkfebchaaFixRes
namespace Go.Proofs.Ytpiongdkfebchaa
open Go.RowKit Bx

def RPOut (r d f m : Int) (v : Value) (L : List (List Int)) (w : World) (a : Act) (w' : World) : Prop :=
  a.defers = [] ∧ a.tmps.size = 59 ∧ a.tmps[1]? = some (.int .i64 f) ∧ a.tmps[2]? = some (.int .i64 m) ∧ a.tmps[3]? = some (.pointer (some ⟨w.heap.size, 0, none⟩)) ∧ a.tmps[6]? = some (.pointer (some ⟨w.heap.size + 1, 0, none⟩)) ∧ a.tmps[7]? = some (.pointer (some ⟨w.heap.size + 1 + 1, 0, none⟩)) ∧
    ∃ i : Nat, i ≤ L.length ∧ a.tmps[8]? = some (.int .i64 (i : Int)) ∧ Kept Nix w w' ∧ w'.heap[w.heap.size + 1]? = some (.cells #[.int .i64 0, .int .i64 0, .slice none 0 0] 24 (0, 0)) ∧ w'.heap[w.heap.size]? = some (.cells #[.int .i64 r, .int .i64 d, v] 24 (0, 0)) ∧
      ∃ vr us, w'.heap[w.heap.size + 1 + 1]? = some (.cells #[.int .i64 r, .int .i64 d, vr] 24 (0, 0)) ∧ Rack w.heap.size w' vr us (partL (L.take i) f m)

def RPIn (f m : Int) (i : Nat) (row : List Int) (w w1 : World) (a : Act) (w' : World) : Prop :=
  a.defers = [] ∧ a.tmps.size = 59 ∧ a.tmps[1]? = some (.int .i64 f) ∧ a.tmps[2]? = some (.int .i64 m) ∧ a.tmps[3]? = some (.pointer (some ⟨w.heap.size, 0, none⟩)) ∧ a.tmps[6]? = some (.pointer (some ⟨w.heap.size + 1, 0, none⟩)) ∧ a.tmps[7]? = some (.pointer (some ⟨w.heap.size + 1 + 1, 0, none⟩)) ∧ a.tmps[8]? = some (.int .i64 (i : Int)) ∧
    ∃ j u, a.tmps[9]? = some u ∧ a.tmps[10]? = some (.int .i64 ((f.toNat + j : Nat) : Int)) ∧ j ≤ m.toNat ∧ (j = 0 ∨ f.toNat + j ≤ row.length) ∧ Kept Nix w1 w' ∧ w'.ownsRow w1.heap.size 3 1 u j (ivs ((row.drop f.toNat).take j))

theorem rpart_nums {row : List Int} {m : Int} {F j n : Nat} (hn : n = F + j) (h1 : F + j < row.length) (h2 : (j : Int) < m) (hl : row.length < 1099511627776) :
    n < row.length ∧ (n : Int) < (row.length : Int) ∧ wrap64 ((n : Int) + 1) = ((n + 1 : Nat) : Int) ∧ j < row.length ∧ j + 1 ≤ maxLen ∧ (j + 1) * 8 ≤ 140737488355328 ∧ j + 1 ≤ m.toNat := by
  subst hn
  refine ⟨h1, by omega, ?_, by omega, by simp only [maxLen]; omega, by omega, by omega⟩
  rw [w64_in _ (by omega)]
  omega

theorem take_next {row : List Int} {F j : Nat} (h : F + j < row.length) : (row.drop F).take (j + 1) = (row.drop F).take j ++ [row.getD (F + j) 0] := by
  have h1 : j < (row.drop F).length := by rw [List.length_drop]; omega
  rw [List.take_succ_eq_append_getElem h1]
  simp [List.getD, h]

theorem take_done {row : List Int} {m : Int} {F j : Nat} (hj : j ≤ m.toNat) (h : ¬ (F + j < row.length ∧ (j : Int) < m)) : (row.drop F).take j = (row.drop F).take m.toNat := by
  by_cases h1 : F + j < row.length
  · rw [show j = m.toNat by omega]
  · have h2 : (row.drop F).length ≤ j := by rw [List.length_drop]; omega
    rw [List.take_of_length_le h2, List.take_of_length_le (Nat.le_trans h2 hj)]

theorem take_len {w : World} {base j : Nat} {u : Value} {zs : List Int} (h : w.ownsRow base 3 1 u j (ivs zs)) : zs.length = j := by
  have := h.1
  simpa [ivs] using this

theorem i_next {i n : Nat} (h : i < n) (hn : n < 1099511627776) : wrap64 ((i : Int) + 1) = ((i + 1 : Nat) : Int) := by
  rw [w64_in _ (by omega)]
  omega

theorem rpart_tests {row : List Int} {m : Int} {F j n : Nat} (hn : n = F + j) (h : ¬ (F + j < row.length ∧ (j : Int) < m)) : (decide (n < row.length) = true ∧ decide ((j : Int) < m) = false) ∨ decide (n < row.length) = false := by
  subst hn
  by_cases h1 : F + j < row.length
  · exact .inl ⟨decide_eq_true h1, decide_eq_false (fun h2 => h ⟨h1, h2⟩)⟩
  · exact .inr (decide_eq_false h1)

set_option maxRecDepth 10000 in
set_option maxHeartbeats 4000000 in
theorem rpart_any (r d : Int) (v : Value) (L : List (List Int)) (f m : Int) (w : World) (h : Chs w v L) (hl : L.length < 1099511627776) (hrows : ∀ c ∈ L, c.length < 1099511627776) (hf : -9223372036854775808 ≤ f ∧ f ≤ 9223372036854775807) :
    Calls Try.prog 28 #[.agg #[.int .i64 r, .int .i64 d, v], .int .i64 f, .int .i64 m] w fun e w' => ∃ v' us, e = .returned (.agg #[.int .i64 r, .int .i64 d, v']) ∧ Kept Nix w w' ∧ Rack w.heap.size w' v' us (partL L f m) := by
  obtain ⟨ao, cap, rfl, _, _, _⟩ := h.open
  have HCH := Lib.hid h
  have HROWS := Lib.hid hrows
  have HFF := Lib.hid hf
  obtain ⟨k0, h1, h2, h0⟩ := part_start w r d (.slice ao L.length cap) _ rfl
  have K0 := Lib.hid k0
  have H0 := Lib.hid h0
  have H1 := Lib.hid h1
  have H2 := Lib.hid h2
  have HLL := Lib.hid hl
  clear h hrows k0 h1 h2 h0 hf hl
  go_enter Try.func28, Try.ntmps28
  go_wp2
  generalize ((w.alloc (.cells #[.int .i64 r, .int .i64 d, .slice ao L.length cap] 24)).alloc (.cells #[.int .i64 0, .int .i64 0, .slice none 0 0] 24)).alloc (.cells #[.int .i64 r, .int .i64 d, .slice none 0 0] 24) = w0 at *
  refine wp_loop (RPOut r d f m (.slice ao L.length cap) L w) (fun a _ => L.length - (intOf (a.tmps.getD 8 undef)).toNat) ?_ ?_
  · exact ⟨rfl, rfl, rfl, rfl, rfl, rfl, rfl, 0, Nat.zero_le _, rfl, K0.out, H1.out, H0.out, _, [], H2.out, rack_nil _ _⟩
  · clear K0 H1 H2 H0
    rintro ⟨tm, df⟩ w1 ⟨rfl, hs, e1, e2, e3, e6, e7, i, hi, e8, hk, h6, h3, vr, us, h7, hrk⟩
    simp only at hs e1 e2 e3 e6 e7 e8
    obtain ⟨fr, hf, hg⟩ := fr_open hs
    have g1 := hg _ _ e1
    have g2 := hg _ _ e2
    have g3 := hg _ _ e3
    have g6 := hg _ _ e6
    have g7 := hg _ _ e7
    have g8 := hg _ _ e8
    simp only [List.range, List.range.loop, List.map] at hf
    rw [g1, g2, g3, g6, g7, g8] at hf
    clear g1 g2 g3 g6 g7 g8 hg hs e1 e2 e3 e6 e7 e8
    subst hf
    have HK := Lib.hid hk
    have H6 := Lib.hid h6
    have H7 := Lib.hid h7
    have H3 := Lib.hid h3
    have HRK := Lib.hid hrk
    have x3 : w1.cell? ⟨w.heap.size, 2, none⟩ = some (.slice ao L.length cap) := by rw [cell_of h3]; rfl
    by_cases hlt : i < L.length
    · have hd : decide (i < L.length) = true := decide_eq_true hlt
      obtain ⟨b, off, rfl, hb, A, C, hh⟩ := (HCH.out.nix hk).at (by omega)
      obtain ⟨hcell, hsl⟩ := hh i hlt
      have hi1 : (i : Int) < (L.length : Int) := by omega
      have hrl : (L.getD i []).length < 1099511627776 := by
        simp only [List.getD, List.getElem?_eq_getElem hlt, Option.getD_some]
        exact HROWS.out _ (List.getElem_mem hlt)
      have HSL := Lib.hid hsl
      have HI := Lib.hid hlt
      have HPS := Lib.hid (partL_snoc L f m hlt)
      have HCELL := Lib.hid (show ∀ w', Kept Nix w1 w' → w'.cell? ⟨b, off + i, none⟩ = some (.slice (A i) (L.getD i []).length (C i)) from fun w' hk' => (World.cell?_of_block (hk'.block _ hb id)).trans hcell)
      clear hh hb hi hlt hk h6 hrk hsl hcell h7 h3
      generalize hrow : L.getD i [] = row at *
      generalize A i = ai at *
      generalize C i = ci at *
      have HRL := Lib.hid hrl
      clear hrow hrl
      obtain ⟨F, hF⟩ : ∃ F : Nat, F = f.toNat := ⟨_, rfl⟩
      have HF := Lib.hid hF
      clear hF
      go_upto_region 6 with fail
      refine wp_mono (Q := fun e a' w' => e = .normal ∧ w' = w1 ∧ a'.defers = [] ∧ a'.tmps.size = 59 ∧ a'.tmps[1]? = some (.int .i64 f) ∧ a'.tmps[2]? = some (.int .i64 m) ∧ a'.tmps[3]? = some (.pointer (some ⟨w.heap.size, 0, none⟩)) ∧ a'.tmps[6]? = some (.pointer (some ⟨w.heap.size + 1, 0, none⟩)) ∧ a'.tmps[7]? = some (.pointer (some ⟨w.heap.size + 1 + 1, 0, none⟩)) ∧ a'.tmps[8]? = some (.int .i64 (i : Int)) ∧ a'.tmps[9]? = some (.slice none 0 0) ∧ a'.tmps[10]? = some (.int .i64 (F : Int))) ?_ ?_
      · go_wp2
        all_goals (have q1 := HF.out; clear HF; omega)
      · rintro e ⟨tm, df⟩ w2 ⟨rfl, rfl, rfl, hs, e1, e2, e3, e6, e7, e8, e9, e10⟩
        simp only at hs e1 e2 e3 e6 e7 e8 e9 e10
        obtain ⟨fr2, hf, hg⟩ := fr_open hs
        have g1 := hg _ _ e1
        have g2 := hg _ _ e2
        have g3 := hg _ _ e3
        have g6 := hg _ _ e6
        have g7 := hg _ _ e7
        have g8 := hg _ _ e8
        have g9 := hg _ _ e9
        have g10 := hg _ _ e10
        simp only [List.range, List.range.loop, List.map] at hf
        rw [g1, g2, g3, g6, g7, g8, g9, g10] at hf
        clear g1 g2 g3 g6 g7 g8 g9 g10 hg hs e1 e2 e3 e6 e7 e8 e9 e10
        subst hf
        clear x3 hd
        go_wp2
        refine wp_loop (RPIn f m i row w w2) (fun a _ => row.length - (intOf (a.tmps.getD 10 undef)).toNat) ?_ ?_
        · exact ⟨rfl, rfl, rfl, rfl, rfl, rfl, rfl, rfl, 0, _, rfl, by rw [← HF.out]; rfl, Nat.zero_le _, .inl rfl, Kept.refl _ _, World.ownsRow_nil _ _ _ _⟩
        · rintro ⟨tm, df⟩ w3 ⟨rfl, hs, e1, e2, e3, e6, e7, e8, j, u, e9, e10, hjm, hjr, hk3, ho3⟩
          simp only at hs e1 e2 e3 e6 e7 e8 e9 e10
          rw [← HF.out] at e10 hjr ho3
          obtain ⟨fr3, hf, hg⟩ := fr_open hs
          have g1 := hg _ _ e1
          have g2 := hg _ _ e2
          have g3 := hg _ _ e3
          have g6 := hg _ _ e6
          have g7 := hg _ _ e7
          have g8 := hg _ _ e8
          have g9 := hg _ _ e9
          have g10 := hg _ _ e10
          simp only [List.range, List.range.loop, List.map] at hf
          rw [g1, g2, g3, g6, g7, g8, g9, g10] at hf
          clear g1 g2 g3 g6 g7 g8 g9 g10 hg hs e1 e2 e3 e6 e7 e8 e9 e10
          subst hf
          have x3 : w3.cell? ⟨w.heap.size, 2, none⟩ = some (.slice (some ⟨b, off, none⟩) L.length cap) := by rw [cell_of (hk3.heap H3.out id)]; rfl
          have xr := HCELL.out w3 hk3
          have hi1' : i < L.length := HI.out
          obtain ⟨uo, ucap, rfl, _, _⟩ := owns_shape ho3
          have HK3 := Lib.hid hk3
          have HO3 := Lib.hid ho3
          have HJM := Lib.hid hjm
          have HJR := Lib.hid hjr
          clear hk3 ho3 hjm hjr
          obtain ⟨n, hn⟩ : ∃ n : Nat, n = F + j := ⟨_, rfl⟩
          rw [← hn]
          by_cases cc : F + j < row.length ∧ (j : Int) < m
          · obtain ⟨p1, p2, p3, p4, p5, p6, p7⟩ := rpart_nums (row := row) (m := m) hn cc.1 cc.2 HRL.out
            obtain ⟨b2, o2, rfl⟩ := HSL.out.where (Nat.lt_of_le_of_lt (Nat.zero_le _) p1)
            have cx : w3.cell? ⟨b2, o2 + n, none⟩ = some (.int .i64 (row.getD n 0)) := (HSL.out.nix HK3.out).cellInt p1
            have HT := Lib.hid (take_next (row := row) (F := F) (j := j) cc.1)
            rw [← hn] at HT
            have P1 := Lib.hid p1
            have P3 := Lib.hid p3
            have P5 := Lib.hid p5
            have P6 := Lib.hid p6
            have P7 := Lib.hid p7
            have HNN := Lib.hid hn
            have d1 : decide (n < row.length) = true := decide_eq_true p1
            have d2 : decide ((j : Int) < m) = true := decide_eq_true cc.2
            have d3 : (n : Int) < (row.length : Int) := p2
            clear cc hn p1 p2 p3 p5 p6 p7
            generalize row.getD n 0 = xn at *
            have O5 := Lib.hid (HO3.out.alloc (.cells #[.int .i64 xn] 3))
            go_wp2_with (refine wpList_app _ rfl (.tmp 41) (.tmp 50) 45 rfl w2.heap.size 3 (.int .i64 0) 1 8 Try.underlying45 info_int rfl (by decide) _ _ _ rfl O5.out _ 1 1 [.int .i64 xn] rfl (src_one w3 _ _ rfl) P5.out P6.out (by have := HK3.out.size; simp; omega) ?_; intro v6 w6 o6 g6 n6; have K6 := Lib.hid (show Kept Nix w2 w6 from (HK3.out.alloc _).grown g6 (fun kk hkk => .inr (O5.out.lt kk hkk).1)); have O6 := Lib.hid o6; clear o6 g6 n6)
            rw [P3.out]
            refine ⟨⟨rfl, rfl, rfl, rfl, rfl, rfl, rfl, rfl, j + 1, v6, rfl, by rw [← HF.out, ← Nat.add_assoc, ← HNN.out]; rfl, P7.out, .inr (by rw [← HF.out, ← Nat.add_assoc, ← HNN.out]; exact P1.out), K6.out, ?_⟩, nearer P1.out rfl⟩
            rw [← HF.out, HT.out, ivs_append]
            exact O6.out
          · have hpt := take_done (row := row) (F := F) HJM.out cc
            have hcs := rpart_tests (row := row) hn cc
            have hjl : j ≤ row.length := by rcases HJR.out with h | h <;> omega
            have HPT := Lib.hid hpt
            have HJL := Lib.hid hjl
            obtain ⟨vo, vcap, rfl, _, _⟩ := owns_shape HRK.out.1
            have hus : us.length = i := HRK.out.2.1.trans (partL_len L f m (Nat.le_of_lt HI.out))
            have HB1 := Lib.hid (show us.length + 1 ≤ maxLen by rw [hus]; exact (row_bounds HI.out HLL.out).1)
            have HB2 := Lib.hid (show (us.length + 1) * 24 ≤ 140737488355328 by rw [hus]; exact (row_bounds HI.out HLL.out).2)
            have x7 : w3.cell? ⟨w.heap.size + 1 + 1, 2, none⟩ = some (.slice vo us.length vcap) := by rw [cell_of (HK3.out.heap H7.out id)]; rfl
            have KX := Lib.hid (show Kept Nix w2 (w3.alloc (.cells #[.slice uo j ucap] 45)) from HK3.out.alloc _)
            have OWN := Lib.hid (show (w3.alloc (.cells #[.slice uo j ucap] 45)).ownsRow w.heap.size 45 1 (.slice vo us.length vcap) us.length us from (HK3.out.owns HRK.out.1 (fun _ _ h => h)).alloc _)
            have OU := Lib.hid (show (w3.alloc (.cells #[.slice uo j ucap] 45)).ownsRow w.heap.size 3 1 (.slice uo j ucap) j (ivs ((row.drop F).take j)) from (owns_weak HO3.out HK.out.size).alloc _)
            have B3 := Lib.hid (show w.heap.size ≤ (w3.alloc (.cells #[.slice uo j ucap] 45)).heap.size from Nat.le_trans HK.out.size KX.out.size)
            have P6 := Lib.hid (show ∀ w6, (w3.alloc (.cells #[.slice uo j ucap] 45)).grownBy w6 (Value.slice vo us.length vcap).ownBlock → w6.heap[w.heap.size + 1 + 1]? = some (.cells #[.int .i64 r, .int .i64 d, .slice vo us.length vcap] 24 (0, 0)) from by
              intro w6 hg6
              have hk2 := KX.out.heap H7.out id
              refine (hg6.block _ (lt_of_heap hk2) (fun e => ?_)).trans hk2
              obtain ⟨cur', hg'⟩ := owns_type OWN.out e.symm
              rw [hk2] at hg'
              simp at hg')
            clear cc hpt hjl hn hus
            rcases hcs with ⟨d1, d2⟩ | d1
            all_goals
              go_upto_region 10 with fail
              go_wp2_with (refine wpList_app _ rfl (.tmp 53) (.tmp 55) 22 rfl w.heap.size 45 (.slice none 0 0) 1 24 Try.underlying22 info_ints rfl (by decide) (.slice vo us.length vcap) us.length us rfl OWN.out (some ⟨w3.heap.size, 0, none⟩) 1 1 [.slice uo j ucap] rfl (src_one w3 _ _ rfl) HB1.out HB2.out B3.out ?_; intro v6 w6 o6 g6 n6; obtain ⟨g', cap', rfl, _⟩ := owns_pos o6 (Nat.succ_pos _); have q9 := P6.out w6 g6; have hc9' := cell_of (i := 2) q9; have hf9' := frozen_of (i := 2) q9; have O6 := Lib.hid o6; have G6 := Lib.hid g6; clear q9 o6 g6 n6)
              obtain ⟨s1, s2, s3, s4⟩ := rack_step (zs := (row.drop F).take j) HK.out H7.out HRK.out KX.out (by rw [take_len HO3.out]; exact OU.out) O6.out G6.out (Nat.le_trans (Nat.le_succ _) (Nat.le_succ _))
              rw [HPT.out, HF.out, ← HPS.out] at s4
              rw [i_next HI.out HLL.out]
              refine ⟨⟨rfl, rfl, rfl, rfl, rfl, rfl, rfl, i + 1, HI.out, rfl, s1, s2 _ _ _ (Nat.ne_of_lt (Nat.lt_succ_self _)) (by decide) H6.out, s2 _ _ _ (by omega) (by decide) H3.out, _, _, s3, s4⟩, nearer HI.out rfl⟩
    · have hd : decide (i < L.length) = false := decide_eq_false hlt
      have hiL : i = L.length := by omega
      subst hiL
      rw [List.take_length] at HRK
      have hc0 : w1.cell? ⟨w.heap.size + 1 + 1, 0, none⟩ = some (.int .i64 r) := by rw [cell_of h7]; rfl
      have hc1 : w1.cell? ⟨w.heap.size + 1 + 1, 1, none⟩ = some (.int .i64 d) := by rw [cell_of h7]; rfl
      obtain ⟨vo, vcap, rfl, _, _⟩ := owns_shape hrk.1
      have hc2 : w1.cell? ⟨w.heap.size + 1 + 1, 2, none⟩ = some (.slice vo us.length vcap) := by rw [cell_of h7]; rfl
      clear hlt hi hk h6 h7 hrk
      go_wp2_with (first | (refine wpList_store_row rfl 24 _ _ rfl _ _ rfl rfl 24 _ H6.out size_sound rfl (one_sound _ _ _ _ _) ?_))
      refine ret_row rfl (w.heap.size + 1) 24 _ (0, 0) _ rfl (heap_row _ H6.out) Try.underlying24 rfl size_sound rfl ?_
      refine ⟨_, us, rfl, HK.out.setRow (.inr (Nat.le_succ _)) _, ?_⟩
      refine HRK.out.other (Kept.setRow (S := One (w.heap.size + 1)) (Kept.refl _ _) (.inl rfl) _) (fun k cur t hk' hh => ?_)
      have hk'' : k = w.heap.size + 1 := hk'
      subst hk''
      rw [H6.out] at hh
      cases hh
      exact ⟨by decide, by decide⟩

end Go.Proofs.Ytpiongdkfebchaa
