/- The reference of layer 11: Quantise. -/
import Derived.Test.YtgcokligilfkgaaRQu3
import Derived.Test.YtgcokligilfkgaaQuant
namespace Go.Proofs.Ytgcokligilfkgaa
open Go.RowKit Bx

set_option maxRecDepth 10000 in
set_option maxHeartbeats 2000000 in
theorem rquant_bad (v : Value) (zs : List Int) (p : Int) (w : World) (hz : Sl w v (ivs zs)) (hb : zs.length < 1 ∨ 32 < zs.length ∨ p < 2 ∨ 15 < p) :
    Calls Try.prog 11 #[v, .int .i64 p] w (QPostR (0, 0, [], 1) w) := by
  obtain ⟨ao, ca, rfl, -⟩ := hz.ints
  obtain ⟨h8, k0, hsz⟩ := q_start w _ rfl
  have H8 := Lib.hid h8
  have K0 := Lib.hid k0
  clear hz h8 k0 hsz
  generalize zs.length = n at *
  have hcases : (decide ((n : Int) < 1) = true) ∨ (decide ((n : Int) < 1) = false ∧ decide (32 < (n : Int)) = true) ∨ (decide ((n : Int) < 1) = false ∧ decide (32 < (n : Int)) = false ∧ decide (p < 2) = true) ∨ (decide ((n : Int) < 1) = false ∧ decide (32 < (n : Int)) = false ∧ decide (p < 2) = false ∧ decide (15 < p) = true) := by
    simp only [decide_eq_true_eq, decide_eq_false_iff_not]
    omega
  clear hb
  go_enter Try.func11, Try.ntmps11
  go_upto_region 1 with fail
  generalize w.alloc (.cells #[.int .i64 0, .int .i64 0, .slice none 0 0] 26) = w1 at *
  rcases hcases with a1 | ⟨a1, a2⟩ | ⟨a1, a2, a3⟩ | ⟨a1, a2, a3, a4⟩
  all_goals go_wp2_with (refine wpList_store_row rfl 26 _ _ rfl _ _ rfl rfl 26 _ H8.out size_lpc rfl (one_lpc _ _ _ _ _) ?_)
  all_goals exact bodyPost_ret (results_lpc rfl _ _ w.heap.size _ 1 rfl (heap_row _ H8.out) rfl rfl) rfl ⟨_, rfl, World.ownsRow_nil _ _ _ _, K0.out.setRow (.inr (Nat.le_refl _)) _⟩

theorem rq_start (P : Nat) (h2 : 2 ≤ P) (h15 : P ≤ 15) : ∃ q : Nat, q = P - 1 ∧ wrap64 ((P : Int) - 1) = (q : Int) ∧ q ≤ 61 := ⟨P - 1, rfl, by unfold wrap64; omega, by omega⟩

set_option maxRecDepth 10000 in
set_option maxHeartbeats 4000000 in
theorem rquant_good (v : Value) (zs : List Int) (P : Nat) (w : World) (hz : Sl w v (ivs zs)) (hb : Bd 1099511627776 zs) (hl1 : 1 ≤ zs.length) (hl2 : zs.length ≤ 32) (h2 : 2 ≤ P) (h15 : P ≤ 15) :
    Calls Try.prog 11 #[v, .int .i64 (P : Int)] w (QPostR (qgood zs P) w) := by
  obtain ⟨ao, ca, rfl, -⟩ := hz.ints
  obtain ⟨h8, k0, hsz⟩ := q_start w _ rfl
  obtain ⟨q, hq, hq1, hq2⟩ := rq_start P h2 h15
  have H8 := Lib.hid h8
  have K0 := Lib.hid k0
  have HSZ := Lib.hid hsz
  have HZ := Lib.hid hz
  have HZ1 := Lib.hid (hz.nix k0)
  have HB := Lib.hid hb
  have HL := Lib.hid (And.intro hl1 hl2)
  have HP := Lib.hid (And.intro h2 h15)
  have PW := Lib.hid (fun w => rpower_any q hq2 w)
  have HF := Lib.hid (show far zs ≤ 1099511627776 from far_le _ _ (fun i hi => by have := hb i hi; omega))
  have a1 : decide ((zs.length : Int) < 1) = false := decide_eq_false (by omega)
  have a2 : decide (32 < (zs.length : Int)) = false := decide_eq_false (by omega)
  have a3 : decide ((P : Int) < 2) = false := decide_eq_false (by omega)
  have a4 : decide (15 < (P : Int)) = false := decide_eq_false (by omega)
  have HQ := Lib.hid hq
  clear hz h8 k0 hsz hl1 hl2 h2 h15 hb hq hq2
  generalize hn : zs.length = n at *
  have HN := Lib.hid hn
  clear hn
  go_enter Try.func11, Try.ntmps11
  go_upto_region 1 with fail
  generalize w.alloc (.cells #[.int .i64 0, .int .i64 0, .slice none 0 0] 26) = w1 at *
  go_wp2
  clear a1 a2 a3 a4
  refine rqu_l1 (P : Int) w.heap.size (.slice ao n ca) zs _ w1 _ ⟨rfl, rfl, rfl, rfl, rfl⟩ rfl rfl HZ1.out HB.out (by rw [HN.out]; exact HL.out.2) ?_
  rintro ⟨tm, df⟩ ⟨rfl, hs, e0, e1, e4⟩ e6
  simp only at hs e0 e1 e4 e6
  obtain ⟨f, hf, hg⟩ := fr_open hs
  have g0 := hg _ _ e0
  have g1 := hg _ _ e1
  have g4 := hg _ _ e4
  have g6 := hg _ _ e6
  simp only [List.range, List.range.loop, List.map] at hf
  rw [g0, g1, g4, g6] at hf
  clear g0 g1 g4 g6 hg hs e0 e1 e4 e6
  subst hf
  go_wp2_with (go_at_call 17; refine (PW.out _).mono ?_; rintro e w2 ⟨rfl, rfl⟩)
  refine rqu_l2 (P : Int) w.heap.size (far zs) P (.slice ao n ca) _ w2 _ ⟨rfl, rfl, rfl, rfl, rfl⟩ rfl (by rw [← HQ.out]; rfl) rfl rfl HF.out HP.out.1 HP.out.2 ?_
  clear f
  rintro ⟨tm, df⟩ ⟨rfl, hs, e0, e1, e4⟩ e6 e8 e9
  simp only at hs e0 e1 e4 e6 e8 e9
  obtain ⟨f, hf, hg⟩ := fr_open hs
  have g0 := hg _ _ e0
  have g1 := hg _ _ e1
  have g4 := hg _ _ e4
  have g6 := hg _ _ e6
  have g8 := hg _ _ e8
  have g9 := hg _ _ e9
  simp only [List.range, List.range.loop, List.map] at hf
  rw [g0, g1, g4, g6, g8, g9] at hf
  clear g0 g1 g4 g6 g8 g9 hg hs e0 e1 e4 e6 e8 e9 hq1 PW
  subst hf
  have QN := Lib.hid (fun h => qgood_none (zs := zs) (P := P) h)
  have QZ := Lib.hid (fun h => qgood_zero (zs := zs) (P := P) h)
  have QS := Lib.hid (fun s h h0 => qgood_some (zs := zs) (P := P) (s := s) h h0)
  have FO := Lib.hid (fun s h => fit_of (zs := zs) (s := s) HP.out.1 HP.out.2 h)
  cases hs : shOf (far zs) P with
  | none =>
    have HPO : Hid (∀ u w', w'.ownsRow w.heap.size 3 1 u 0 (ivs []) → Kept Nix w w' → QPostR (qgood zs P) w (.returned (.tuple #[.agg #[.int .i64 0, .int .i64 0, u], .int .i64 6])) w') := Lib.hid (fun u w' ho hk => by rw [QN.out hs]; exact ⟨u, rfl, ho, hk⟩)
    rw [show shZ none = -1 from rfl]
    clear hs
    generalize far zs = F at *
    generalize (2 : Int) ^ (P - 1) = h at *
    go_wp2_with (refine wpList_store_row rfl 26 _ _ rfl _ _ rfl rfl 26 _ H8.out size_lpc rfl (one_lpc _ _ _ _ _) ?_)
    exact bodyPost_ret (results_lpc rfl _ _ w.heap.size _ 6 rfl (heap_row _ H8.out) rfl rfl) rfl (HPO.out _ _ (World.ownsRow_nil _ _ _ _) (K0.out.setRow (.inr (Nat.le_refl _)) _))
  | some s =>
    rw [show shZ (some s) = (s : Int) from rfl]
    have hs0 : decide ((s : Int) < 0) = false := decide_eq_false (by omega)
    by_cases h0 : far zs = 0
    · have HPO : Hid (∀ u w', w'.ownsRow w.heap.size 3 1 u 0 (ivs []) → Kept Nix w w' → QPostR (qgood zs P) w (.returned (.tuple #[.agg #[.int .i64 0, .int .i64 0, u], .int .i64 6])) w') := Lib.hid (fun u w' ho hk => by rw [QZ.out h0]; exact ⟨u, rfl, ho, hk⟩)
      have hF : (((far zs : Nat) : Int) == 0) = true := by rw [h0]; rfl
      clear hs h0
      generalize far zs = F at *
      generalize (2 : Int) ^ (P - 1) = h at *
      go_wp2_with (refine wpList_store_row rfl 26 _ _ rfl _ _ rfl rfl 26 _ H8.out size_lpc rfl (one_lpc _ _ _ _ _) ?_)
      exact bodyPost_ret (results_lpc rfl _ _ w.heap.size _ 6 rfl (heap_row _ H8.out) rfl rfl) rfl (HPO.out _ _ (World.ownsRow_nil _ _ _ _) (K0.out.setRow (.inr (Nat.le_refl _)) _))
    · have hF : (((far zs : Nat) : Int) == 0) = false := beq_false_of_ne (by omega)
      obtain ⟨s15, hfit⟩ := FO.out s hs
      have HPO : Hid (∀ u w', w'.ownsRow w.heap.size 3 1 u zs.length (ivs (tolds (2 ^ (P - 1)) (2 ^ s) zs)) → Kept Nix w w' → QPostR (qgood zs P) w (.returned (.tuple #[.agg #[.int .i64 (s : Int), .int .i64 (P : Int), u], .int .i64 0])) w') := Lib.hid (fun u w' ho hk => by rw [QS.out s hs h0]; exact ⟨u, rfl, by simp only [tolds_length]; exact ho, hk⟩)
      have HS15 := Lib.hid s15
      have HFIT := Lib.hid hfit
      clear hs h0 s15 hfit
      generalize far zs = F at *
      generalize (2 : Int) ^ (P - 1) = h at *
      go_upto_region 22 with (refine wpList_store_row rfl 26 _ _ rfl _ _ rfl rfl 26 _ (heap_alloc_new w2 _) size_lpc rfl (one_lpc _ _ _ _ _) ?_)
      obtain ⟨k4, hc4⟩ := put_lpc w2 (s : Int) (P : Int) (.slice none 0 0) _ rfl
      generalize World.setRow _ _ _ = w4 at *
      have H4 := Lib.hid (hc4 w4 (Kept.refl _ _)).1
      have G4 := Lib.hid (k4.heap H8.out id)
      have K4 := Lib.hid (nix_trans K0.out k4)
      have SZ4 := Lib.hid (show w2.heap.size < w4.heap.size from lt_of_heap H4.out)
      have ZK := Lib.hid (show ∀ w', Kept (fun k => k = w2.heap.size) w4 w' → Kept Nix w w' from fun w' k => K4.out.trans k (fun _ h => h) (fun j hj e => by have := HSZ.out; omega))
      clear hc4 k4 hs0 hF
      go_wp2
      refine rqu_l3 (P : Int) h w.heap.size w2.heap.size s (.slice ao n ca) zs _ w4 _ ⟨rfl, rfl, rfl, rfl, rfl⟩ rfl rfl rfl rfl rfl H4.out (fun w' k => HZ.out.nix (ZK.out w' k)) HFIT.out HS15.out (by rw [HN.out]; exact HL.out.2) ?_
      clear f
      rintro ⟨tm, df⟩ w5 u ⟨rfl, hs, e0, e1, e4⟩ e11 hh ho hk
      simp only at hs e0 e1 e4 e11
      obtain ⟨f, hf, hg⟩ := fr_open hs
      have g0 := hg _ _ e0
      have g1 := hg _ _ e1
      have g4 := hg _ _ e4
      have g11 := hg _ _ e11
      simp only [List.range, List.range.loop, List.map] at hf
      rw [g0, g1, g4, g11] at hf
      clear g0 g1 g4 g11 hg hs e0 e1 e4 e11
      subst hf
      obtain ⟨uo, uc, rfl, -, -⟩ := owns_shape ho
      have HH := Lib.hid hh
      have HO := Lib.hid ho
      have K5 := Lib.hid (ZK.out w5 hk)
      have G5 := Lib.hid (hk.heap G4.out (fun e => by have := HSZ.out; omega))
      clear hh ho hk
      go_wp2_with (first
        | (refine wpList_load_row rfl 26 _ rfl w2.heap.size rfl 26 _ (0, 0) _ HH.out Try.underlying26 rfl size_lpc ?_)
        | (refine wpList_store_row rfl 26 _ _ rfl _ _ rfl rfl 26 _ G5.out size_lpc rfl (one_lpc _ _ _ _ _) ?_))
      refine bodyPost_ret (results_lpc rfl _ _ w.heap.size _ 0 rfl (heap_row _ G5.out) rfl rfl) rfl (HPO.out _ _ (owns_weak (owns_set_low HO.out w.heap.size ?_ _) ?_) (K5.out.setRow (.inr (Nat.le_refl _)) _))
      · have := HSZ.out; have := SZ4.out; omega
      · have := HSZ.out; have := SZ4.out; omega

theorem rquant_any (v : Value) (zs : List Int) (p : Int) (w : World) (hz : Sl w v (ivs zs)) (hb : Bd 1099511627776 zs) :
    Calls Try.prog 11 #[v, .int .i64 p] w (QPost zs p w) := by
  unfold QPost
  by_cases hc : zs.length < 1 ∨ 32 < zs.length ∨ p < 2 ∨ 15 < p
  · rw [qz_bad hc]
    exact rquant_bad v zs p w hz hc
  · obtain ⟨P, rfl⟩ : ∃ P : Nat, p = (P : Int) := ⟨p.toNat, by omega⟩
    rw [qz_good hc]
    exact rquant_good v zs P w hz hb (by omega) (by omega) (by omega) (by omega)

end Go.Proofs.Ytgcokligilfkgaa
