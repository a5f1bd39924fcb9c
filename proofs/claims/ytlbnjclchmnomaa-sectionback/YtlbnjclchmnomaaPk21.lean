/- Package parts: the best order (bestOrder). -/
import Derived.Test.YtlbnjclchmnomaaPk19
import Derived.Test.YtlbnjclchmnomaaPk20

namespace Go.Proofs.Ytlbnjclchmnomaa
open Go.RowKit Bx

theorem owns_type2 {w : World} {base size : Nat} {e : TypeId} {v : Value} {n : Nat} {xs : List Value} (h : w.ownsRow base e size v n xs) {k : Nat} (hk : v.ownBlock = some k) : ∃ cur, w.heap[k]? = some (.cells cur e (0, 0)) := by
  rcases h.2 with ⟨rfl, _⟩ | ⟨g, cap, cur, rfl, _, hg, _⟩
  · cases hk
  · cases hk
    exact ⟨cur, hg⟩

theorem fine_plS {L : List Int} (hn : nrs L = true) (hl : L.length ≤ 1048576) (k o : Nat) : Fine (plS L k o) :=
  ⟨pcz_nrs L _ hn, by unfold plS; rw [pcz_length]; exact cts_length_le _ _ _, Nat.le_trans (tl_pcz _ _) hl⟩

/-- The first one of j to F with least f. -/
def Dn (f : Nat → Nat) (j F b : Nat) : Prop := j ≤ b ∧ b ≤ F ∧ (∀ i, j ≤ i → i ≤ F → f b ≤ f i) ∧ ∀ i, j ≤ i → i < b → f b < f i

theorem Dn.first (f : Nat → Nat) (F : Nat) : Dn f F F F := ⟨Nat.le_refl _, Nat.le_refl _, fun i h1 h2 => by rw [Nat.le_antisymm h2 h1]; exact Nat.le_refl _, fun i h1 h2 => by omega⟩
theorem Dn.last {f : Nat → Nat} {F b : Nat} (h : Dn f 0 F b) : b = upA f F :=
  Fst.unique (N := F) ⟨h.2.1, fun i hi => h.2.2.1 i (Nat.zero_le _) hi, fun i hi => h.2.2.2 i (Nat.zero_le _) hi⟩ (upA_fst f F)
theorem Dn.yes {f : Nat → Nat} {j F b : Nat} (h : Dn f (j + 1) F b) (hl : f j ≤ f b) : Dn f j F j := by
  obtain ⟨h1, h2, h3, h4⟩ := h
  refine ⟨Nat.le_refl _, by omega, fun i hi hF => ?_, fun i hi hj => by omega⟩
  by_cases hij : i = j
  · rw [hij]; exact Nat.le_refl _
  · exact Nat.le_trans hl (h3 i (by omega) hF)
theorem Dn.no {f : Nat → Nat} {j F b : Nat} (h : Dn f (j + 1) F b) (hl : ¬ f j ≤ f b) : Dn f j F b := by
  obtain ⟨h1, h2, h3, h4⟩ := h
  refine ⟨by omega, h2, fun i hi hF => ?_, fun i hi hb => ?_⟩
  · by_cases hij : i = j
    · rw [hij]; omega
    · exact h3 i (by omega) hF
  · by_cases hij : i = j
    · rw [hij]; omega
    · exact h4 i (by omega) hb

def Two (p q : Nat) : Nat → Prop := fun k => k = p ∨ k = q

/-- What the best order answers. -/
def OrdPost (L : List Int) (k : Nat) (wd : Bool) (F : Nat) (w : World) (e : Ending) (w' : World) : Prop :=
  ∃ u, e = .returned (.tuple #[.agg #[.bool wd, .int .i64 (upA (plN L k wd) F : Int), u], .int .i64 (plN L k wd (upA (plN L k wd) F) : Int)]) ∧
    w'.ownsRow w.heap.size 50 2 u (plP L k wd (upA (plN L k wd) F)).length (pcs (plP L k wd (upA (plN L k wd) F))) ∧ Kept Nix w w'

def OrdInv (g3 g6 g8 F g : Nat) (L : List Int) (k : Nat) (wd : Bool) (w : World) (f : Act) (w' : World) : Prop :=
  f.defers = [] ∧ f.tmps.size = 39 ∧ f.tmps[2]? = some (.bool wd) ∧ f.tmps[3]? = some (.pointer (some ⟨g3, 0, none⟩)) ∧ f.tmps[6]? = some (.pointer (some ⟨g6, 0, none⟩)) ∧ f.tmps[8]? = some (.pointer (some ⟨g8, 0, none⟩)) ∧
  ∃ j b : Nat, f.tmps[1]? = some (.int .i64 (j : Int)) ∧ f.tmps[9]? = some (.int .i64 (plN L k wd b : Int)) ∧ j ≤ F ∧ Dn (plN L k wd) j F b ∧
    ∃ v1 v2 v3 K u, Hid (w'.heap[g3]? = some (.cells #[v1, v2, v3] 79 (0, 0))) ∧ (∀ w'', Kept (Two g3 g8) w' w'' → Sums w'' v1 v2 v3 (plS L k j) K) ∧ Stp (plS L k j) K g ∧
      Hid (w'.heap[g6]? = some (.cells #[.bool false, .int .i64 0, .slice none 0 0] 25 (0, 0))) ∧ Hid (w'.heap[g8]? = some (.cells #[.bool wd, .int .i64 (b : Int), u] 25 (0, 0))) ∧
      w'.ownsRow w.heap.size 50 2 u (plP L k wd b).length (pcs (plP L k wd b)) ∧ Kept Nix w w'

def ordMeasure (a : Act) : Nat := (intOf (a.tmps.getD 1 undef)).toNat

noncomputable def ordRest : Code := behindLabel (Try.f39.body.getD .skip) 0

set_option maxRecDepth 10000 in
set_option maxHeartbeats 4000000 in
theorem ord_pass (g3 g6 g8 F g : Nat) (L : List Int) (k : Nat) (wd : Bool) (w : World) (hn : nrs L = true) (hl : L.length ≤ 1048576) (hg : g ≤ 30) (hm : wM wd ≤ g) (hF : cutOk L.length k F = true) (h3 : w.heap.size ≤ g3) (h6 : w.heap.size ≤ g6) (h8 : w.heap.size ≤ g8) (h38 : g3 ≠ g8) (h36 : g3 ≠ g6) (h68 : g6 ≠ g8)
    (a : Act) (w' : World) (hi : OrdInv g3 g6 g8 F g L k wd w a w') :
    ordRest.wp Try.prog (Exit.jump 0 (fun a' w'' => OrdInv g3 g6 g8 F g L k wd w a' w'' ∧ ordMeasure a' < ordMeasure a) (bodyPost Try.prog Try.f39 (OrdPost L k wd F w))) a w' := by
  obtain ⟨tm, df⟩ := a
  obtain ⟨rfl, hs, e2, e3, e6, e8, j, b, e1, e9, hjF, hd, v1, v2, v3, K, u, hh3, hss, hst, hh6, hh8, ho, hk⟩ := hi
  simp only at hs e2 e3 e6 e8 e1 e9
  obtain ⟨f, hf, hgg⟩ := fr_open hs
  have g2' := hgg _ _ e2
  have g3' := hgg _ _ e3
  have g6' := hgg _ _ e6
  have g8' := hgg _ _ e8
  have g1' := hgg _ _ e1
  have g9' := hgg _ _ e9
  simp only [List.range, List.range.loop, List.map] at hf
  rw [g2', g3', g6', g8', g1', g9'] at hf
  clear g2' g3' g6' g8' g1' g9' hgg hs e2 e3 e6 e8 e1 e9
  subst hf
  have H3 := Lib.hid hh3.out
  have H6 := Lib.hid hh6.out
  have H8 := Lib.hid hh8.out
  have HSS := Lib.hid hss
  have HST := Lib.hid hst
  have HO := Lib.hid ho
  have HK := Lib.hid hk
  have HD := Lib.hid hd
  have GE := Lib.hid (And.intro h3 (And.intro h6 h8))
  have NE := Lib.hid (And.intro h38 (And.intro h36 h68))
  clear hh3 hh6 hh8 hss hst ho hk hd h3 h6 h8 h38 h36 h68
  conv => arg 2; whnf
  by_cases hj : j = 0
  · subst hj
    have hbe := HD.out.last
    have t0 : ((0 : Int) == 0) = true := rfl
    have HBE := Lib.hid hbe
    clear hbe hjF
    obtain ⟨uo, uc, rfl, -⟩ := owns_shape HO.out
    go_wp2_with (first
      | (refine wpList_load_row rfl 25 _ rfl g8 rfl 25 _ (0, 0) _ H8.out Try.underlying25 rfl size_plan ?_)
      | (refine wpList_store_row rfl 25 _ _ rfl _ _ rfl rfl 25 _ H6.out size_plan rfl (one_plan _ _ _ _ _) ?_))
    simp only [Exit.jump]
    refine bodyPost_ret (results_plan1 rfl _ _ g6 _ (plN L k wd b : Int) rfl (heap_row _ H6.out) rfl rfl) rfl ⟨.slice uo (plP L k wd b).length uc, by rw [← HBE.out], ?_, HK.out.setRow (.inr GE.out.2.1) _⟩
    rw [← HBE.out]
    refine ((Kept.refl (One g6) w').setRow (.inl rfl) _).owns HO.out (fun kk hkk he => ?_)
    have h : kk = g6 := he
    subst h
    obtain ⟨cc, hcc⟩ := owns_type2 HO.out hkk
    rw [H6.out] at hcc
    simp at hcc
  · obtain ⟨p, rfl⟩ : ∃ p, j = p + 1 := ⟨j - 1, by omega⟩
    have t0 : (((p + 1 : Nat) : Int) == 0) = false := by simp; omega
    have hc1 := cutOk_le hF hjF
    have hdn : prs (plS L k (p + 1)) = plS L k p := pcz_down L hc1
    have PA := Lib.hid (fun w'' h => paired_any v1 v2 v3 (plS L k (p + 1)) K g w'' h HST.out (fine_plS hn hl k (p + 1)) hg)
    have hst2 := HST.out.pair
    rw [hdn] at PA hst2
    have PL := Lib.hid (fun u1 u2 u3 w'' h => plan_any u1 u2 u3 (plS L k p) K g p wd w'' h hst2 (fine_plS hn hl k p) hm hg)
    have HST2 := Lib.hid hst2
    have hF15 := ((cutOk_iff _ _ _).1 hF).1
    have hw : wrap64 (((p + 1 : Nat) : Int) - 1) = (p : Int) := by rw [w64_in _ (by omega)]; omega
    have S0 := Lib.hid (HSS.out w' (Kept.refl _ _))
    obtain ⟨a1, c1, rfl, -⟩ := S0.out.many.ints
    obtain ⟨a2, c2, rfl, -⟩ := S0.out.widths.ints
    obtain ⟨a3, c3, rfl, -⟩ := S0.out.bits.open
    have P1 := Lib.hid (PA.out w' S0.out)
    simp only [rws_length, ni_length, List.length_map] at P1 H3
    generalize (plS L k (p + 1)).length = n1 at P1 H3
    have HPF := Lib.hid (show p ≤ F by omega)
    clear PA HSS HST hst2 hj hdn hc1 hF hjF S0
    generalize hp1 : p + 1 = p1 at *
    have HP1 := Lib.hid hp1
    clear hp1
    go_upto_region 5 with (first
      | (refine wpList_load_row rfl 79 _ rfl g3 rfl 79 _ (0, 0) _ H3.out Try.underlying79 rfl size_sums ?_)
      | (go_at_call 58; refine P1.out.mono ?_; rintro e w2 ⟨u1, u2, u3, rfl, so, k2⟩; have SO := Lib.hid so; have K2 := Lib.hid k2; have H32 := Lib.hid (k2.heap H3.out id); obtain ⟨b1, d1, hq1, -⟩ := owns_shape so.many; obtain ⟨b2, d2, hq2, -⟩ := owns_shape so.widths; obtain ⟨b3, d3, hq3, -⟩ := so.sums.bits.open; subst hq1 hq2 hq3; simp only [rws_length, List.length_map] at *; clear so k2 P1)
      | (refine wpList_store_row rfl 79 _ _ rfl _ _ rfl rfl 79 _ H32.out size_sums rfl (one_three _ _ _ _ _ _ _ _ _) ?_))
    have H33 := Lib.hid (heap_row #[.slice b1 (plS L k p).length d1, .slice b2 (plS L k p).length d2, .slice b3 K d3] H32.out)
    have KR3 := Lib.hid ((Kept.refl (One g3) w2).setRow (.inl rfl) #[.slice b1 (plS L k p).length d1, .slice b2 (plS L k p).length d2, .slice b3 K d3])
    have SO3 := Lib.hid (SO.out.other KR3.out (fun kk cur t hs hh => by
      have h : kk = g3 := hs
      subst h
      rw [H32.out] at hh
      cases hh
      exact ⟨by decide, by decide⟩))
    have H63 := Lib.hid (KR3.out.heap (K2.out.heap H6.out id) (fun h => NE.out.2.1 (by have h : g6 = g3 := h; exact h.symm)))
    have H83 := Lib.hid (KR3.out.heap (K2.out.heap H8.out id) (fun h => NE.out.1 (by have h : g8 = g3 := h; exact h.symm)))
    have HO3 := Lib.hid (KR3.out.owns (K2.out.owns HO.out (fun _ _ h => h)) (fun kk hkk he => by
      have h : kk = g3 := he
      subst h
      obtain ⟨cc, hcc⟩ := owns_type2 HO.out hkk
      rw [H3.out] at hcc
      simp at hcc))
    have K3 := Lib.hid ((nix_trans HK.out K2.out).setRow (.inr GE.out.1) #[.slice b1 (plS L k p).length d1, .slice b2 (plS L k p).length d2, .slice b3 K d3])
    have PL3 := Lib.hid (PL.out _ _ _ _ SO3.out.sums)
    clear H32 KR3 SO K2 H3 H6 H8 HO HK PL
    unfold PlanPost at PL3
    generalize w2.setRow g3 #[.slice b1 (plS L k p).length d1, .slice b2 (plS L k p).length d2, .slice b3 K d3] = w3 at *
    generalize hpl : (plS L k p).length = np at *
    have HNP := Lib.hid hpl
    clear hpl
    have HPN := Lib.hid (show 6 + psm (wM wd) (wA wd) (plS L k p) = plN L k wd p from rfl)
    rw [HPN.out] at PL3
    go_upto_region 7 with (first
      | (refine wpList_load_row rfl 79 _ rfl g3 rfl 79 _ (0, 0) _ H33.out Try.underlying79 rfl size_sums ?_)
      | (go_at_call 57; refine PL3.out.mono ?_; rintro e w4 ⟨u4, rfl, o4, k4⟩; have O4 := Lib.hid o4; have K4 := Lib.hid k4; obtain ⟨uo4, uc4, rfl, -⟩ := owns_shape o4; clear o4 k4 PL3))
    have H10 := Lib.hid (heap_alloc_new w4 (.cells #[.bool wd, .int .i64 (p : Int), .slice uo4 np uc4] 25))
    have KA4 := Lib.hid ((Kept.refl Nix w4).alloc (.cells #[.bool wd, .int .i64 (p : Int), .slice uo4 np uc4] 25))
    generalize w4.alloc (.cells #[.bool wd, .int .i64 (p : Int), .slice uo4 np uc4] 25) = w5 at *
    generalize w4.heap.size = g10 at *
    have K35 := Lib.hid (nix_trans K4.out KA4.out)
    have H35 := Lib.hid (K35.out.heap H33.out id)
    have H65 := Lib.hid (K35.out.heap H63.out id)
    have H85 := Lib.hid (K35.out.heap H83.out id)
    have HO5 := Lib.hid (K35.out.owns HO3.out (fun _ _ h => h))
    have SO5 := Lib.hid (SO3.out.other K35.out (fun _ _ _ h => absurd h id))
    have O5 := Lib.hid (owns_base (KA4.out.owns O4.out (fun _ _ h => h)) K3.out.size)
    have K5 := Lib.hid (nix_trans K3.out K35.out)
    clear K35 K4 KA4 H33 H63 H83 HO3 SO3 O4 K3
    have SB := Lib.hid (fun w5' w'' (so : SumsO w'.heap.size w5' (.slice b1 np d1) (.slice b2 np d2) (.slice b3 K d3) (plS L k p) K) (h3 : w5'.heap[g3]? = some (.cells #[.slice b1 np d1, .slice b2 np d2, .slice b3 K d3] 79 (0, 0))) (cs8 : Array Value) (h8 : w5'.heap[g8]? = some (.cells cs8 25 (0, 0))) (h : Kept (Two g3 g8) w5' w'') => (so.other h (fun kk cur t hs hh => by
      rcases hs with hs | hs
      · subst hs
        rw [h3] at hh
        cases hh
        exact ⟨by decide, by decide⟩
      · subst hs
        rw [h8] at hh
        cases hh
        exact ⟨by decide, by decide⟩)).sums)
    have HPL := Lib.hid (show (plP L k wd p).length = np by unfold plP; rw [bps_length, HNP.out])
    have HPP := Lib.hid (show bps (plS L k p) (wM wd) = plP L k wd p from rfl)
    rw [HPP.out] at O5
    have HMS := Lib.hid (show p < p1 by have := HP1.out; omega)
    by_cases hle : plN L k wd p ≤ plN L k wd b
    · have HD2 := Lib.hid (Dn.yes (by have := HD.out; rw [← HP1.out] at this; exact this) hle)
      have t1 : decide (plN L k wd p ≤ plN L k wd b) = true := decide_eq_true hle
      clear hle HD
      have H86 := Lib.hid (heap_row #[.bool wd, .int .i64 (p : Int), .slice uo4 np uc4] H85.out)
      have KR6 := Lib.hid ((Kept.refl (One g8) w5).setRow (.inl rfl) #[.bool wd, .int .i64 (p : Int), .slice uo4 np uc4])
      have H36 := Lib.hid (KR6.out.heap H35.out (fun h => NE.out.1 h))
      have H66 := Lib.hid (KR6.out.heap H65.out (fun h => NE.out.2.2 h))
      have hnot : ∀ kk, (Value.slice uo4 np uc4).ownBlock = some kk → ¬ One g8 kk := fun kk hkk he => by
        have h : kk = g8 := he
        subst h
        obtain ⟨cc, hcc⟩ := owns_type2 O5.out hkk
        rw [H85.out] at hcc
        simp at hcc
      have O6 := Lib.hid (KR6.out.owns O5.out hnot)
      have SO6 := Lib.hid (SO5.out.other KR6.out (fun kk cur t hs hh => by
        have h : kk = g8 := hs
        subst h
        rw [H85.out] at hh
        cases hh
        exact ⟨by decide, by decide⟩))
      have K6 := Lib.hid (K5.out.setRow (.inr GE.out.2.2) #[.bool wd, .int .i64 (p : Int), .slice uo4 np uc4])
      clear hnot
      generalize plN L k wd b = nb at *
      generalize hnpp : plN L k wd p = np' at *
      have HNPP := Lib.hid hnpp
      clear hnpp
      go_wp2_with (first
        | (refine wpList_load_row rfl 25 _ rfl g10 rfl 25 _ (0, 0) _ H10.out Try.underlying25 rfl size_plan ?_)
        | (refine wpList_store_row rfl 25 _ _ rfl _ _ rfl rfl 25 _ H85.out size_plan rfl (one_plan _ _ _ _ _) ?_))
      refine wp_goto ⟨rfl, ⟨rfl, rfl, rfl, rfl, rfl, rfl, p, p, rfl, by rw [HNPP.out]; rfl, HPF.out, HD2.out, _, _, _, K, .slice uo4 np uc4, Lib.hid H36.out, fun w'' h => SB.out _ w'' SO6.out H36.out _ H86.out h, HST2.out, Lib.hid H66.out, Lib.hid H86.out, by rw [HPL.out]; exact O6.out, K6.out⟩, ?_⟩
      have := HMS.out
      simp only [ordMeasure, intOf]
      simp
      omega
    · have HD2 := Lib.hid (Dn.no (by have := HD.out; rw [← HP1.out] at this; exact this) hle)
      have t1 : decide (plN L k wd p ≤ plN L k wd b) = false := decide_eq_false hle
      clear hle HD
      generalize hnb : plN L k wd b = nb at *
      have HNB := Lib.hid hnb
      clear hnb
      generalize plN L k wd p = np' at *
      go_wp2
      refine wp_goto ⟨rfl, ⟨rfl, rfl, rfl, rfl, rfl, rfl, p, b, rfl, by rw [HNB.out]; rfl, HPF.out, HD2.out, _, _, _, K, u, Lib.hid H35.out, fun w'' h => SB.out _ w'' SO5.out H35.out _ H85.out h, HST2.out, Lib.hid H65.out, Lib.hid H85.out, HO5.out, K5.out⟩, ?_⟩
      have := HMS.out
      simp only [ordMeasure, intOf]
      simp
      omega

set_option maxRecDepth 10000 in
set_option maxHeartbeats 4000000 in
theorem border_any (v1 v2 v3 : Value) (L : List Int) (k F K g : Nat) (wd : Bool) (w : World) (hS : Sums w v1 v2 v3 (plS L k F) K) (hT : Stp (plS L k F) K g) (hn : nrs L = true) (hl : L.length ≤ 1048576) (hg : g ≤ 30) (hm : wM wd ≤ g) (hF : cutOk L.length k F = true) :
    Calls Try.prog 39 #[.agg #[v1, v2, v3], .int .i64 (F : Int), .bool wd] w (OrdPost L k wd F w) := by
  have hb := heap_alloc_new w (.cells #[v1, v2, v3] 79)
  have k1 : Kept Nix w (w.alloc (.cells #[v1, v2, v3] 79)) := (Kept.refl _ w).alloc _
  have HB := Lib.hid (fun w' (h : Kept Nix (w.alloc (.cells #[v1, v2, v3] 79)) w') => h.heap hb id)
  have K1 := Lib.hid k1
  have HT := Lib.hid hT
  have PL := Lib.hid (fun w' h => plan_any v1 v2 v3 (plS L k F) K g F wd w' (hS.nix h) hT (fine_plS hn hl k F) hm hg)
  have SS := Lib.hid (fun w' h => hS.nix (w' := w') h)
  have HPASS := Lib.hid (fun g3 g6 g8 h3 h6 h8 h38 h36 h68 => ord_pass g3 g6 g8 F g L k wd w hn hl hg hm hF h3 h6 h8 h38 h36 h68)
  have HPN := Lib.hid (show 6 + psm (wM wd) (wA wd) (plS L k F) = plN L k wd F from rfl)
  have HPP := Lib.hid (show bps (plS L k F) (wM wd) = plP L k wd F from rfl)
  unfold PlanPost at PL
  rw [HPN.out, HPP.out] at PL
  obtain ⟨a1, c1, rfl, -⟩ := hS.many.ints
  obtain ⟨a2, c2, rfl, -⟩ := hS.widths.ints
  obtain ⟨a3, c3, rfl, -⟩ := hS.bits.open
  simp only [rws_length, ni_length, List.length_map] at *
  clear hb k1 hS hT hn hl hg hm hF
  generalize hnp : (plS L k F).length = np at *
  have HNP := Lib.hid (show (plP L k wd F).length = np by unfold plP; rw [bps_length]; exact hnp)
  clear hnp
  go_enter Try.func39, Try.ntmps39
  go_wp2
  refine wp_scope_jumps 0 (fun a' w' => ∃ g8, (w.heap.size ≤ g8 ∧ w.heap.size ≠ g8 ∧ w.heap.size + 1 ≠ g8) ∧ OrdInv w.heap.size (w.heap.size + 1) g8 F g L k wd w a' w') (fun a' _ => ordMeasure a') rfl ?_ ?_
  · have KA := Lib.hid ((Kept.refl Nix (w.alloc (.cells #[.slice a1 np c1, .slice a2 np c2, .slice a3 K c3] 79))).alloc (.cells #[.bool false, .int .i64 0, .slice none 0 0] 25))
    have H6 := Lib.hid (heap_alloc_new (w.alloc (.cells #[.slice a1 np c1, .slice a2 np c2, .slice a3 K c3] 79)) (.cells #[.bool false, .int .i64 0, .slice none 0 0] 25))
    have hsz : (w.alloc (.cells #[.slice a1 np c1, .slice a2 np c2, .slice a3 K c3] 79)).heap.size = w.heap.size + 1 := by simp
    rw [hsz] at H6
    have H3 := Lib.hid (HB.out _ KA.out)
    have K2 := Lib.hid (nix_trans K1.out KA.out)
    generalize (w.alloc (.cells #[.slice a1 np c1, .slice a2 np c2, .slice a3 K c3] 79)).alloc (.cells #[.bool false, .int .i64 0, .slice none 0 0] 25) = w2 at *
    have P2 := Lib.hid (PL.out w2 K2.out)
    clear hsz KA HB K1 PL
    go_wp2_with (first
      | (refine wpList_load_row rfl 79 _ rfl w.heap.size rfl 79 _ (0, 0) _ H3.out Try.underlying79 rfl size_sums ?_)
      | (go_at_call 57; refine P2.out.mono ?_; rintro e w3 ⟨u3, rfl, o3, k3⟩; have O3 := Lib.hid o3; have K3 := Lib.hid k3; obtain ⟨uo, uc, rfl, -⟩ := owns_shape o3; clear o3 k3 P2))
    have H8 := Lib.hid (heap_alloc_new w3 (.cells #[.bool wd, .int .i64 (F : Int), .slice uo np uc] 25))
    have K4 := Lib.hid ((Kept.refl Nix w3).alloc (.cells #[.bool wd, .int .i64 (F : Int), .slice uo np uc] 25))
    have HG8 := Lib.hid (show w.heap.size ≤ w3.heap.size ∧ w.heap.size ≠ w3.heap.size ∧ w.heap.size + 1 ≠ w3.heap.size by
      have h1 := (Array.getElem?_eq_some_iff.1 H6.out).1
      have h2 := K3.out.size
      omega)
    generalize w3.alloc (.cells #[.bool wd, .int .i64 (F : Int), .slice uo np uc] 25) = w4 at *
    generalize w3.heap.size = g8 at *
    have K34 := Lib.hid (nix_trans K3.out K4.out)
    have KF := Lib.hid (nix_trans K2.out K34.out)
    have H34 := Lib.hid (K34.out.heap H3.out id)
    have H64 := Lib.hid (K34.out.heap H6.out id)
    have O4 := Lib.hid (owns_base (K4.out.owns O3.out (fun _ _ h => h)) K2.out.size)
    have S4 := Lib.hid (fun w'' (h : Kept (Two w.heap.size g8) w4 w'') => SS.out w'' (KF.out.trans h (fun _ h => h) (fun j hj he => by
      have := HG8.out
      rcases he with he | he
      · omega
      · omega)))
    go_step3
    rename_i K' hK
    refine hK _ _ ?_
    refine wp_mono (HPASS.out w.heap.size (w.heap.size + 1) g8 (Nat.le_refl _) (Nat.le_succ _) HG8.out.1 HG8.out.2.1 (Nat.ne_of_lt (Nat.lt_succ_self _)) HG8.out.2.2 _ _ ⟨rfl, rfl, rfl, rfl, rfl, rfl, F, F, rfl, rfl, Nat.le_refl _, Dn.first _ F, _, _, _, K, .slice uo np uc, Lib.hid H34.out, S4.out, HT.out, Lib.hid H64.out, Lib.hid H8.out, by rw [HNP.out]; exact O4.out, KF.out⟩) ?_
    intro e a' w' h
    cases e with
    | goto l => exact ⟨h.1, ⟨g8, HG8.out, h.2.1⟩⟩
    | normal => exact h
    | exit id => exact h
    | ret => exact h
    | panic ch => exact h
    | outgrown => exact h
  · rintro a' w' ⟨g8, hg8, hi⟩
    refine wp_seq (wp_skip ?_)
    refine wp_mono (HPASS.out w.heap.size (w.heap.size + 1) g8 (Nat.le_refl _) (Nat.le_succ _) hg8.1 hg8.2.1 (Nat.ne_of_lt (Nat.lt_succ_self _)) hg8.2.2 a' w' hi) ?_
    intro e a'' w'' h
    cases e with
    | goto l => exact ⟨h.1, ⟨g8, hg8, h.2.1⟩, h.2.2⟩
    | normal => exact h
    | exit id => exact h
    | ret => exact h
    | panic ch => exact h
    | outgrown => exact h

end Go.Proofs.Ytlbnjclchmnomaa
