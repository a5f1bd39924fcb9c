/- Package parts: the sums of a cut. -/
import Derived.Test.YtlbnjclchmnomaaPk19

namespace Go.Proofs.Ytlbnjclchmnomaa
open Go.RowKit Bx

/-- Does any of the first parts have fewer bits by k than by the one ahead of it? -/
def fwr (P : List (List Int)) (k i : Nat) : Bool := decide (k = 0) || (P.take i).any (fun Q => decide (sN Q k < sN Q (k - 1)))

theorem fwr_zero (P : List (List Int)) (k : Nat) : fwr P k 0 = decide (k = 0) := by simp [fwr]
theorem fwr_step (P : List (List Int)) (k i : Nat) (h : i < P.length) : fwr P k (i + 1) = (fwr P k i || decide (sN (P.getD i []) k < sN (P.getD i []) (k - 1))) := by
  unfold fwr
  rw [takeP P i h, List.any_append, Bool.or_assoc]
  simp
theorem fwr_end {P : List (List Int)} {k g : Nat} (h : fwr P k P.length = false) (hg : k ≤ g) : Stp P k g := by
  unfold fwr at h
  rw [List.take_length] at h
  simp only [Bool.or_eq_false_iff, decide_eq_false_iff_not, List.any_eq_false, decide_eq_true_eq] at h
  exact ⟨by omega, by omega, .inr fun Q hQ => by have := h.2 Q hQ; omega⟩

theorem stp_all (P : List (List Int)) (g : Nat) : Stp P (g + 1) g := ⟨by omega, Nat.le_refl _, .inl rfl⟩

def WidInv (g6 g8 n : Nat) (vp vc vl vm : Value) (P : List (List Int)) (w2 : World) (f : Act) (w' : World) : Prop :=
  f.defers = [] ∧ f.tmps.size = 86 ∧ f.tmps[0]? = some vl ∧ f.tmps[2]? = some vm ∧ f.tmps[6]? = some (.pointer (some ⟨g6, 0, none⟩)) ∧ f.tmps[7]? = some vp ∧ f.tmps[8]? = some (.pointer (some ⟨g8, 0, none⟩)) ∧ f.tmps[21]? = some vp ∧ f.tmps[22]? = some (.int .i64 (n : Int)) ∧
  ∃ i : Nat, i ≤ n ∧ f.tmps[23]? = some (.int .i64 (i : Int)) ∧ ∃ u, Hid (w'.heap[g8]? = some (.cells #[vc, u, .slice none 0 0] 79 (0, 0))) ∧ w'.ownsRow w2.heap.size 3 1 u i (ivs (ni ((P.take i).map cw))) ∧ Kept Nix w2 w'

def RowsInv (g6 g8 n g : Nat) (vp vc u2 : Value) (P : List (List Int)) (w2 : World) (f : Act) (w' : World) : Prop :=
  f.defers = [] ∧ f.tmps.size = 86 ∧ f.tmps[6]? = some (.pointer (some ⟨g6, 0, none⟩)) ∧ f.tmps[7]? = some vp ∧ f.tmps[8]? = some (.pointer (some ⟨g8, 0, none⟩)) ∧ f.tmps[36]? = some (.int .i64 ((g + 1 : Nat) : Int)) ∧
  ∃ k : Nat, k ≤ g + 1 ∧ f.tmps[37]? = some (.int .i64 (k : Int)) ∧ ∃ v us, Hid (w'.heap[g8]? = some (.cells #[vc, u2, v] 79 (0, 0))) ∧ Rack w2.heap.size w' v us ((rws P k).map ni) ∧ w'.ownsRow w2.heap.size 3 1 u2 n (ivs (ni (P.map cw))) ∧ Kept Nix w2 w'

def RowInv (g6 g8 n g k g12 : Nat) (vp : Value) (P : List (List Int)) (w5 : World) (f : Act) (w' : World) : Prop :=
  f.defers = [] ∧ f.tmps.size = 86 ∧ f.tmps[6]? = some (.pointer (some ⟨g6, 0, none⟩)) ∧ f.tmps[7]? = some vp ∧ f.tmps[8]? = some (.pointer (some ⟨g8, 0, none⟩)) ∧ f.tmps[36]? = some (.int .i64 ((g + 1 : Nat) : Int)) ∧ f.tmps[37]? = some (.int .i64 (k : Int)) ∧ f.tmps[11]? = some (.int .i64 (k : Int)) ∧
  f.tmps[12]? = some (.slice (some ⟨g12, 0, none⟩) n n) ∧ f.tmps[45]? = some vp ∧ f.tmps[46]? = some (.int .i64 (n : Int)) ∧
  ∃ i : Nat, i ≤ n ∧ f.tmps[47]? = some (.int .i64 (i : Int)) ∧ f.tmps[13]? = some (.bool (fwr P k i)) ∧
    w'.ownsRow g12 3 1 (.slice (some ⟨g12, 0, none⟩) n n) n (ivs (fill (ni (P.map (fun Q => sN Q k))) i)) ∧ Kept Nix w5 w'

set_option maxRecDepth 10000 in
set_option maxHeartbeats 8000000 in
theorem sumsof_any (vl vc : Value) (L : List Int) (C : List Nat) (g : Nat) (w : World) (hL : Sl w vl (ivs L)) (hC : Sl w vc (ivs (ni C))) (hs : C.sum ≤ L.length) (hl : L.length ≤ 1048576) (hF : Fine (pcz L C)) (hg : g ≤ 30) :
    Calls Try.prog 38 #[vl, vc, .int .i64 (g : Int)] w fun e w' => ∃ u1 u2 u3 K, e = .returned (.agg #[u1, u2, u3]) ∧ Sums w' u1 u2 u3 (pcz L C) K ∧ Stp (pcz L C) K g ∧ Kept Nix w w' := by
  have hcl : C.length ≤ 32768 := by have := hF.len; rwa [pcz_length] at this
  have hlens := pcz_lens L C hs
  have k1 : Kept Nix w (w.alloc (.cells #[.slice none 0 0, .slice none 0 0, .slice none 0 0] 79)) := (Kept.refl _ w).alloc _
  have H6 := Lib.hid (heap_alloc_new w (.cells #[.slice none 0 0, .slice none 0 0, .slice none 0 0] 79))
  have CT := Lib.hid (pcut_any L C vl vc _ (hL.nix k1) (hC.nix k1) hs hl hcl)
  have K1 := Lib.hid k1
  have VC := Lib.hid (fun w' (h : Kept Nix w w') => show Sl w' vc (ivs (ni ((pcz L C).map List.length))) by rw [hlens]; exact hC.nix h)
  obtain ⟨P, hP⟩ : ∃ P, pcz L C = P := ⟨_, rfl⟩
  rw [hP] at CT VC hF ⊢
  obtain ⟨n, hn⟩ : ∃ n, P.length = n := ⟨_, rfl⟩
  have HNP := Lib.hid hn
  have HF := Lib.hid hF
  have HG := Lib.hid hg
  have HN := Lib.hid (show n ≤ 32768 by rw [← hn]; exact hF.len)
  obtain ⟨a1, c1, rfl, -⟩ := hC.ints
  rw [show (ni C).length = n by rw [ni_length, ← hn, ← hP, pcz_length]] at *
  obtain ⟨a0, c0, rfl, -⟩ := hL.ints
  clear hL hC hs hl hF hg hcl hlens k1 hP hn
  generalize L.length = ln at *
  go_enter Try.func38, Try.ntmps38
  go_upto_region 1 with fail
  generalize w.alloc (.cells #[.slice none 0 0, .slice none 0 0, .slice none 0 0] 79) = w1 at *
  go_upto_region 2 with (go_at_call 28; refine CT.out.mono ?_; rintro e w2 ⟨u7, rfl, ch, k2⟩; have K2 := Lib.hid k2; have CH := Lib.hid ch; obtain ⟨po, pc, rfl, -⟩ := ch.open; clear ch k2 CT)
  go_upto_region 3 with fail
  rw [HNP.out] at CH ⊢
  have H8 := Lib.hid (heap_alloc_new w2 (.cells #[.slice a1 n c1, .slice none 0 0, .slice none 0 0] 79))
  have K3 := Lib.hid ((Kept.refl Nix w2).alloc (.cells #[.slice a1 n c1, .slice none 0 0, .slice none 0 0] 79))
  have H62 := Lib.hid (K2.out.heap H6.out id)
  have HL8 := Lib.hid (show w.heap.size < w2.heap.size from (Array.getElem?_eq_some_iff.1 H62.out).1)
  generalize w2.alloc (.cells #[.slice a1 n c1, .slice none 0 0, .slice none 0 0] 79) = w3 at *
  obtain ⟨g8, hg8⟩ : ∃ g8, w2.heap.size = g8 := ⟨_, rfl⟩
  have HG8 := Lib.hid hg8
  rw [hg8] at H8 ⊢
  clear hg8 H6
  go_wp2
  refine wp_loop (WidInv w.heap.size g8 n (.slice po n pc) (.slice a1 n c1) (.slice a0 ln c0) (.int .i64 (g : Int)) P w2) (fun f _ => n - (intOf (f.tmps.getD 23 undef)).toNat) ?_ ?_
  · exact ⟨rfl, rfl, rfl, rfl, rfl, rfl, rfl, rfl, rfl, 0, Nat.zero_le _, rfl, _, Lib.hid H8.out, World.ownsRow_nil _ _ _ _, K3.out⟩
  · clear H8 K3
    rintro ⟨tm, df⟩ w4 ⟨rfl, hs, e0, e2, e6, e7, e8, e21, e22, i, hi, e23, u, h8, ho, hk⟩
    simp only at hs e0 e2 e6 e7 e8 e21 e22 e23
    obtain ⟨f, hf, hg⟩ := fr_open hs
    have g0' := hg _ _ e0
    have g2' := hg _ _ e2
    have g6' := hg _ _ e6
    have g7' := hg _ _ e7
    have g8' := hg _ _ e8
    have g21' := hg _ _ e21
    have g22' := hg _ _ e22
    have g23' := hg _ _ e23
    simp only [List.range, List.range.loop, List.map] at hf
    rw [g0', g2', g6', g7', g8', g21', g22', g23'] at hf
    clear g0' g2' g6' g7' g8' g21' g22' g23' hg hs e0 e2 e6 e7 e8 e21 e22 e23
    subst hf
    have H8 := Lib.hid h8.out
    have HO := Lib.hid ho
    have HK := Lib.hid hk
    clear h8 ho hk
    by_cases hlt : i < n
    · have hdd : decide (i < n) = true := decide_eq_true hlt
      have hi1 : (i : Int) < (n : Int) := by omega
      obtain ⟨b3, o3, rfl, ro, rc, hr⟩ := CH.out.row i (by rw [HNP.out]; exact hlt)
      obtain ⟨y0, -⟩ := hr w4 HK.out
      obtain ⟨-, ys⟩ := hr w4.drew HK.out.drew
      have hq := HF.out.get (show i < P.length by rw [HNP.out]; exact hlt)
      have hst : (P.take (i + 1)).map cw = (P.take i).map cw ++ [cw (P.getD i [])] := by rw [takeP P i (by rw [HNP.out]; exact hlt), List.map_append]; rfl
      have HST := Lib.hid hst
      have WD := Lib.hid (cwidth_any _ _ w4.drew ys)
      rw [show cwid (P.getD i []) = (cw (P.getD i []) : Int) by unfold cwid; rw [if_pos hq.1]] at WD
      have HI := Lib.hid hlt
      have HW := Lib.hid (show wrap64 ((i : Int) + 1) = ((i + 1 : Nat) : Int) by have := HN.out; rw [w64_in _ (by omega)]; omega)
      have HB1 := Lib.hid (show i + 1 ≤ maxLen ∧ (i + 1) * 8 ≤ 140737488355328 by have := HN.out; simp only [maxLen]; omega)
      generalize cw (P.getD i []) = cq at *
      have hh8 : w4.drew.heap[g8]? = _ := H8.out
      have c1' : w4.drew.cell? ⟨g8, 1, none⟩ = some u := (cell_of hh8).trans rfl
      have ka : Kept Nix w4 (w4.alloc (.cells #[.int .i64 (cq : Int)] 3)) := (Kept.refl _ _).alloc _
      have c2' : (w4.alloc (.cells #[.int .i64 (cq : Int)] 3)).cell? ⟨g8, 1, none⟩ = some u := (cell_of (ka.heap H8.out id)).trans rfl
      obtain ⟨vo, vc', hvv, -⟩ := owns_shape HO.out
      subst hvv
      have OWN := Lib.hid ((HO.out.alloc (.cells #[.int .i64 (cq : Int)] 3)))
      have KW := Lib.hid (show Kept Nix w2 (w4.drew.alloc (.cells #[.int .i64 (cq : Int)] 3)) from HK.out.drew.alloc _)
      have OWN2 : Hid ((w4.drew.alloc (.cells #[.int .i64 (cq : Int)] 3)).ownsRow w2.heap.size 3 1 (.slice vo i vc') i (ivs (ni ((P.take i).map cw)))) := Lib.hid OWN.out
      have HH8 := Lib.hid (show (w4.drew.alloc (.cells #[.int .i64 (cq : Int)] 3)).heap[g8]? = some (.cells #[.slice a1 n c1, .slice vo i vc', .slice none 0 0] 79 (0, 0)) from ((Kept.refl Nix w4.drew).alloc _).heap hh8 id)
      have HNE := Lib.hid (show (Value.slice vo i vc').ownBlock ≠ some g8 from fun h => by
        obtain ⟨cc, hcc⟩ := owns_type HO.out h
        rw [H8.out] at hcc
        simp at hcc)
      clear hr ys hlt hi hq hst hh8 ka OWN
      go_upto_region 6 with fail
      go_region_law
        (first
          | (refine step_app (w4.drew.alloc (.cells #[.int .i64 (cq : Int)] 3)) rfl (.tmp 28) (.tmp 31) 22 rfl w2.heap.size 3 (.int .i64 0) 1 8 Try.underlying22 info_int rfl (by decide) (.slice vo i vc') i _ rfl OWN2.out _ 1 1 [.int .i64 (cq : Int)] rfl (src_one w4.drew _ _ rfl) HB1.out.1 HB1.out.2 KW.out.size ?_
             intro v7 w7 o7 g7 n7
             obtain ⟨v7o, v7c, rfl, -⟩ := owns_shape o7
             have s1 := (g7.block g8 (Array.getElem?_eq_some_iff.1 HH8.out).1 (fun e => HNE.out e.symm)).trans HH8.out
             have z7 := frozen_of (i := 1) s1
             have y7 := (cell_of (i := 1) s1).trans rfl
             have KF := Lib.hid (KW.out.grown g7 (fun kk hkk => .inr (OWN2.out.lt kk hkk).1))
             have S1 := Lib.hid s1; have O7 := Lib.hid o7; clear s1 o7 g7 n7)
          | (go_simp; go_at_call 36; refine WD.out.mono ?_; rintro e wx ⟨rfl, rfl⟩))
      all_goals
        clear c1' c2' y0 y7 z7
        go_wp2
        rw [HW.out]
        refine ⟨⟨rfl, rfl, rfl, rfl, rfl, rfl, rfl, rfl, rfl, i + 1, HI.out, rfl, _, Lib.hid (heap_set S1.out), ?_, KF.out.setCell (p := ⟨g8, 1, none⟩) (.inr (Nat.le_of_eq HG8.out)) _⟩, nearer HI.out rfl⟩
        rw [HST.out, ni_append, ivs_append]
        exact keep_set3 S1.out O7.out 1
    · have hie : i = n := by omega
      subst hie
      have hdd : decide (i < i) = false := decide_eq_false hlt
      rw [show P.take i = P by rw [← HNP.out, List.take_length]] at HO
      clear hlt hi
      have hgw : wrap64 ((g : Int) + 1) = ((g + 1 : Nat) : Int) := by have := HG.out; rw [w64_in _ (by omega)]; omega
      obtain ⟨gg, hgg⟩ : ∃ gg, g + 1 = gg := ⟨_, rfl⟩
      have HGG := Lib.hid hgg
      rw [hgg] at hgw
      have HGW := Lib.hid hgw
      clear hgg hgw
      go_wp2
      rw [HGW.out]
      clear hdd
      refine wp_loop (RowsInv w.heap.size g8 i g (.slice po i pc) (.slice a1 i c1) u P w2) (fun f _ => gg - (intOf (f.tmps.getD 37 undef)).toNat) ?_ ?_
      · exact ⟨rfl, rfl, rfl, rfl, rfl, by rw [HGG.out]; rfl, 0, Nat.zero_le _, rfl, _, [], Lib.hid H8.out, rack_nil _ _, HO.out, HK.out⟩
      · clear H8 HO HK
        rintro ⟨tm, df⟩ w5 ⟨rfl, hs, e6, e7, e8, e36, k, hk, e37, v, us, h8, hrk, ou, hkk⟩
        simp only at hs e6 e7 e8 e36 e37
        rw [HGG.out] at e36 hk
        obtain ⟨f5, hf, hg⟩ := fr_open hs
        have g6' := hg _ _ e6
        have g7' := hg _ _ e7
        have g8' := hg _ _ e8
        have g36' := hg _ _ e36
        have g37' := hg _ _ e37
        simp only [List.range, List.range.loop, List.map] at hf
        rw [g6', g7', g8', g36', g37'] at hf
        clear g6' g7' g8' g36' g37' hg hs e6 e7 e8 e36 e37
        subst hf
        have H8 := Lib.hid h8.out
        have RK := Lib.hid hrk
        have OU := Lib.hid ou
        have HK := Lib.hid hkk
        clear h8 hrk ou hkk
        by_cases hlt : k < gg
        · have hdd : decide (k < gg) = true := decide_eq_true hlt
          have HKG := Lib.hid hlt
          have hmk := make_int i (by have := HN.out; omega) w5
          have hk0 : ((k : Int) == 0) = fwr P k 0 := by
            rw [fwr_zero]
            by_cases h : k = 0
            · subst h; rfl
            · rw [decide_eq_false h]; simp; omega
          have hk0' : decide (k = 0) = fwr P k 0 := (fwr_zero P k).symm
          have OR := Lib.hid (show (w5.alloc (.cells (ivs (List.replicate i 0)).toArray 3)).ownsRow w5.heap.size 3 1 (.slice (some ⟨w5.heap.size, 0, none⟩) i i) i (ivs (fill (ni (P.map (fun Q => sN Q k))) 0)) by
            rw [fill_zero, ni_length, List.length_map, HNP.out]
            exact lit_base w5 w5.heap.size (Nat.le_refl _) (List.replicate i 0) i (by simp) (by have := HN.out; simp only [maxLen]; omega))
          have K5 := Lib.hid ((Kept.refl Nix w5).alloc (.cells (ivs (List.replicate i 0)).toArray 3))
          have HG12 := Lib.hid HK.out.size
          generalize hfw : fwr P k 0 = b0 at *
          have HFW := Lib.hid hfw
          clear hlt hk hfw
          go_upto_region 12 with fail
          clear hmk
          generalize w5.alloc (.cells (ivs (List.replicate i 0)).toArray 3) = w6 at *
          obtain ⟨g12, hg12⟩ : ∃ g12, w5.heap.size = g12 := ⟨_, rfl⟩
          have HG12E := Lib.hid hg12
          rw [hg12] at OR HG12 ⊢
          clear hg12
          go_wp2
          clear hk0 hk0' hdd
          refine wp_loop (RowInv w.heap.size g8 i g k g12 (.slice po i pc) P w5) (fun f _ => i - (intOf (f.tmps.getD 47 undef)).toNat) ?_ ?_
          · exact ⟨rfl, rfl, rfl, rfl, rfl, by rw [HGG.out]; rfl, rfl, rfl, rfl, rfl, rfl, 0, Nat.zero_le _, rfl, by rw [HFW.out]; rfl, OR.out, K5.out⟩
          · clear OR K5
            rintro ⟨tm, df⟩ w7 ⟨rfl, hs, e6, e7, e8, e36, e37, e11, e12, e45, e46, q, hq, e47, e13, orow, hk5⟩
            simp only at hs e6 e7 e8 e36 e37 e11 e12 e45 e46 e47 e13
            rw [HGG.out] at e36
            obtain ⟨f7, hf, hg⟩ := fr_open hs
            have g6' := hg _ _ e6
            have g7' := hg _ _ e7
            have g8' := hg _ _ e8
            have g36' := hg _ _ e36
            have g37' := hg _ _ e37
            have g11' := hg _ _ e11
            have g12' := hg _ _ e12
            have g45' := hg _ _ e45
            have g46' := hg _ _ e46
            have g47' := hg _ _ e47
            have g13' := hg _ _ e13
            simp only [List.range, List.range.loop, List.map] at hf
            rw [g6', g7', g8', g36', g37', g11', g12', g45', g46', g47', g13'] at hf
            clear g6' g7' g8' g36' g37' g11' g12' g45' g46' g47' g13' hg hs e6 e7 e8 e36 e37 e11 e12 e45 e46 e47 e13
            subst hf
            have OR := Lib.hid orow
            have HK7 := Lib.hid hk5
            clear orow hk5
            by_cases hql : q < i
            · have hdq : decide (q < i) = true := decide_eq_true hql
              have hq1 : (q : Int) < (i : Int) := by omega
              obtain ⟨b3, o3, rfl, ro, rc, hr⟩ := CH.out.row q (by rw [HNP.out]; exact hql)
              obtain ⟨y0, ys⟩ := hr w7 (nix_trans HK.out HK7.out)
              have hfq := HF.out.get (show q < P.length by rw [HNP.out]; exact hql)
              have CB := Lib.hid (cbits_any _ _ (k : Int) w7 ys hfq.2)
              have hk30 : k ≤ 30 := by have := HKG.out; have := HGG.out; have := HG.out; omega
              rw [show cbits (P.getD q []) (k : Int) = (sN (P.getD q []) k : Int) by unfold cbits; rw [if_pos hfq.1, show kk ((k : Nat) : Int) = k by unfold kk; omega]] at CB
              have HFS := Lib.hid (fwr_step P k q (by rw [HNP.out]; exact hql))
              have HQ := Lib.hid hql
              have HW := Lib.hid (show wrap64 ((q : Int) + 1) = ((q + 1 : Nat) : Int) by have := HN.out; rw [w64_in _ (by omega)]; omega)
              obtain ⟨z, hz⟩ := fill_cell OR.out (by rw [ni_length, List.length_map]; exact HNP.out) hql
              have zf := OR.out.frozenAt q
              have HST := Lib.hid (fill_set (ni (P.map (fun Q => sN Q k))) q (by rw [ni_length, List.length_map, HNP.out]; exact hql))
              rw [ni_get, map_get P _ q (by rw [HNP.out]; exact hql)] at HST
              have HGET := Lib.hid (fun j => show (ni (P.map (fun Q => sN Q j))).getD q 0 = (sN (P.getD q []) j : Int) by rw [ni_get, map_get P _ q (by rw [HNP.out]; exact hql)])
              have HK30 := Lib.hid hk30
              generalize P.getD q [] = Q at *
              have OR8 := Lib.hid (show (w7.setCell ⟨g12, q, none⟩ (.int .i64 (sN Q k : Int))).ownsRow g12 3 1 (.slice (some ⟨g12, 0, none⟩) i i) i (ivs (fill (ni (P.map (fun Q => sN Q k))) (q + 1))) by
                rw [← HST.out, ← ivs_set]
                exact (OR.out.stored q _).1)
              have K8 := Lib.hid (HK7.out.setCell (p := ⟨g12, q, none⟩) (.inr (Nat.le_of_eq HG12E.out)) (.int .i64 (sN Q k : Int)))
              have HGG8 := Lib.hid (show wrap64 ((k : Int) - 1) = (k : Int) - 1 by rw [w64_in _ (by omega)])
              clear hr ys hfq hql hq hk30
              go_upto_region 17 with (go_at_call 50; refine CB.out.mono ?_; rintro e wx ⟨rfl, rfl⟩; clear CB)
              generalize wx.setCell ⟨g12, q, none⟩ (.int .i64 (sN Q k : Int)) = w8 at *
              clear y0 hz zf hdq
              cases hb : fwr P k q with
              | true =>
                rw [hb] at HFS
                have HFS : Hid (fwr P k (q + 1) = true) := HFS
                go_quiet (fail)
                go_wp2
                rw [HW.out]
                exact ⟨⟨rfl, rfl, rfl, rfl, rfl, by rw [HGG.out]; rfl, rfl, rfl, rfl, rfl, rfl, q + 1, HQ.out, rfl, by rw [HFS.out]; rfl, ((Kept.refl Nix w8).drewN nq).owns OR8.out (fun _ _ h => h), K8.out.drewN nq⟩, nearer HQ.out rfl⟩
              | false =>
                have hk0 : 1 ≤ k := by
                  have h := hb
                  unfold fwr at h
                  simp only [Bool.or_eq_false_iff, decide_eq_false_iff_not] at h
                  omega
                have y1 : w8.cell? ⟨g12, q, none⟩ = some (.int .i64 (sN Q k : Int)) := by
                  refine (OR8.out.cellAt q (by have := HQ.out; omega)).trans ?_
                  rw [← HST.out, ivs_get _ _ (by rw [List.length_set, fill_length _ _ (by rw [ni_length, List.length_map, HNP.out]; exact Nat.le_of_lt HQ.out), ni_length, List.length_map, HNP.out]; exact HQ.out)]
                  congr 2
                  simp only [List.getD_eq_getElem?_getD]
                  rw [List.getElem?_set_self (by rw [fill_length _ _ (by rw [ni_length, List.length_map, HNP.out]; exact Nat.le_of_lt HQ.out), ni_length, List.length_map, HNP.out]; exact HQ.out)]
                  rfl
                have y2 : w8.cell? ⟨g8, 2, none⟩ = some v := (cell_of (K8.out.heap H8.out id)).trans rfl
                obtain ⟨vo, vc', hvv, hch⟩ := (RK.out.kept K8.out).chs.open
                have hch := (RK.out.kept K8.out).chs
                rw [List.length_map, rws_length] at hvv
                subst hvv
                obtain ⟨b5, o5, rfl, ro5, rc5, hr5⟩ := hch.row (k - 1) (by rw [List.length_map, rws_length]; omega)
                rw [rows_get P k (k - 1) (by omega)] at hr5
                obtain ⟨y3, ys5⟩ := hr5 w8 (Kept.refl _ _)
                obtain ⟨b6, o6, rfl, hc6⟩ := cell_kept ys5 q (by rw [ni_length, List.length_map, HNP.out]; exact HQ.out)
                have y4 := hc6 w8 (Kept.refl _ _)
                rw [HGET.out (k - 1)] at y4
                rw [show (ni (P.map (fun Q => sN Q (k - 1)))).length = i by rw [ni_length, List.length_map, HNP.out]] at y3
                have e1 : IntKind.i64.wrap ((k : Int) - 1) = ((k - 1 : Nat) : Int) := by have := HK30.out; rw [IntWalk.i64_in _ (by omega)]; omega
                have j1 : ((k - 1 : Nat) : Int) < (k : Int) := by omega
                have j2 : k - 1 < k := by omega
                have HFS := HFS.out
                rw [hb, Bool.false_or] at HFS
                have HFS := Lib.hid HFS
                clear hr5 hc6 ys5 hch hk0 HGET HGG8
                generalize k - 1 = k1 at *
                generalize hs1 : sN Q k = s1 at *
                generalize hs2 : sN Q k1 = s2 at *
                clear hs1 hs2
                obtain ⟨t, ht⟩ : ∃ t, decide (s1 < s2) = t := ⟨_, rfl⟩
                have HT := Lib.hid ht
                have hqi : q < i := HQ.out
                go_quiet (fail)
                have HTT := Lib.hid (show fwr P k (q + 1) = t by rw [HFS.out]; exact HT.out)
                clear y1 y2 y3 y4 e1 j1 j2 ht
                go_wp2
                rw [HW.out]
                exact ⟨⟨rfl, rfl, rfl, rfl, rfl, by rw [HGG.out]; rfl, rfl, rfl, rfl, rfl, rfl, q + 1, HQ.out, rfl, by rw [HTT.out]; rfl, ((Kept.refl Nix w8).drewN nq).owns OR8.out (fun _ _ h => h), K8.out.drewN nq⟩, nearer HQ.out rfl⟩
            · have hqe : q = i := by omega
              subst hqe
              have hdq : decide (q < q) = false := decide_eq_false hql
              have hfl := fill_last (ni (P.map (fun Q => sN Q k)))
              rw [ni_length, List.length_map, HNP.out] at hfl
              rw [hfl] at OR
              have H87 := Lib.hid (HK7.out.heap H8.out id)
              have RK7 := Lib.hid (RK.out.kept HK7.out)
              have OU7 := Lib.hid (HK7.out.owns OU.out (fun _ _ h => h))
              have HKW := Lib.hid (nix_trans HK.out HK7.out)
              clear hql hq hfl
              cases hb : fwr P k q with
              | true =>
                have HUS := Lib.hid (show us.length = k by have := RK.out.2.1; rw [List.length_map, rws_length] at this; exact this)
                have HLZ := Lib.hid (show (ni (P.map (fun Q => sN Q k))).length = q by rw [ni_length, List.length_map]; exact HNP.out)
                have HRS := Lib.hid (show ((rws P (k + 1)).map ni) = (rws P k).map ni ++ [ni (P.map (fun Q => sN Q k))] by rw [rws_succ, List.map_append]; rfl)
                generalize ni (P.map (fun Q => sN Q k)) = Z at *
                obtain ⟨vo, vc', hvv, -⟩ := owns_shape RK7.out.1
                subst hvv
                have y2 : w7.cell? ⟨g8, 2, none⟩ = some (.slice vo us.length vc') := (cell_of H87.out).trans rfl
                have KXA := Lib.hid ((Kept.refl Nix w7).alloc (.cells #[.slice (some ⟨g12, 0, none⟩) q q] 22))
                have OWN := Lib.hid (KXA.out.owns RK7.out.1 (fun _ _ h => h))
                have OXA := Lib.hid (owns_weak (KXA.out.owns OR.out (fun _ _ h => h)) HG12.out)
                have HSZ := Lib.hid (show w2.heap.size ≤ (w7.alloc (.cells #[.slice (some ⟨g12, 0, none⟩) q q] 22)).heap.size from Nat.le_trans HKW.out.size KXA.out.size)
                have HB1 := Lib.hid (show us.length + 1 ≤ maxLen ∧ (us.length + 1) * 24 ≤ 140737488355328 by rw [HUS.out]; have := HKG.out; have := HGG.out; have := HG.out; simp only [maxLen]; omega)
                have HWK := Lib.hid (show wrap64 ((k : Int) + 1) = ((k + 1 : Nat) : Int) by have := HKG.out; have := HGG.out; have := HG.out; rw [w64_in _ (by omega)]; omega)
                go_wp2_with (
                  refine wpList_app _ rfl _ _ 53 rfl w2.heap.size 22 (.slice none 0 0) 1 24 Try.underlying53 info_ints rfl (by decide) _ us.length us rfl OWN.out (some ⟨w7.heap.size, 0, none⟩) 1 1 [.slice (some ⟨g12, 0, none⟩) q q] rfl (src_one w7 _ _ rfl) HB1.out.1 HB1.out.2 HSZ.out ?_
                  intro v9 w9 o9 g9 n9
                  obtain ⟨v9o, v9c, rfl, -⟩ := owns_shape o9
                  obtain ⟨s1, s2, s3, s4⟩ := rack_step3 H87.out RK7.out KXA.out (by rw [HLZ.out]; exact OXA.out) o9 g9
                  have z9 := frozen_of (i := 2) s1
                  have y9 := (cell_of (i := 2) s1).trans rfl
                  have KF := Lib.hid ((nix_trans HKW.out KXA.out).grown g9 (fun kk hkk => .inr (RK7.out.1.lt kk hkk).1))
                  have S2 := Lib.hid s2; have S3 := Lib.hid s3; have S4 := Lib.hid s4; clear s1 s2 s3 s4 o9 g9 n9)
                rw [HWK.out]
                exact ⟨⟨rfl, rfl, rfl, rfl, rfl, by rw [HGG.out]; rfl, k + 1, by rw [HGG.out]; exact HKG.out, rfl, _, _, Lib.hid S2.out, by rw [HRS.out]; exact S3.out, S4.out _ _ _ OU7.out, KF.out.setCell (p := ⟨g8, 2, none⟩) (.inr (Nat.le_of_eq HG8.out)) _⟩, nearer HKG.out rfl⟩
              | false =>
                have HSTP := Lib.hid (fwr_end (g := g) (by rw [HNP.out]; exact hb) (by have := HKG.out; have := HGG.out; omega))
                have H6' := Lib.hid (HKW.out.heap H62.out id)
                have KR := Lib.hid (nix_trans K1.out (nix_trans K2.out HKW.out))
                obtain ⟨vo, vc', hvv, -⟩ := owns_shape RK7.out.1
                subst hvv
                have KZ := Lib.hid (fun cs => (Kept.refl (One w.heap.size) w7).setRow (.inl rfl) cs)
                have hnot : ∀ {e : TypeId} {size : Nat} {x : Value} {m : Nat} {xs : List Value}, w7.ownsRow w2.heap.size e size x m xs → ∀ kk, x.ownBlock = some kk → ¬ One w.heap.size kk := fun h kk hkk he => by have := (own_lt h hkk).1; have h2 : kk = w.heap.size := he; have := HL8.out; omega
                have SM := Lib.hid (fun cs => Sums.mk (P := P) (K := k) (VC.out _ (KR.out.setRow (.inr (Nat.le_refl _)) cs)) (sl_of_owns ((KZ.out cs).owns OU7.out (hnot OU7.out))) (RK7.out.other (KZ.out cs) (fun kk cur t hs hh => by
                  have h2 : kk = w.heap.size := hs
                  subst h2
                  rw [H6'.out] at hh
                  cases hh
                  exact ⟨by decide, by decide⟩)).chs)
                clear hnot
                obtain ⟨qo, qc, hqq, -⟩ := owns_shape OU7.out
                subst hqq
                go_wp2_with (first
                  | (refine wpList_load_row rfl 79 _ rfl g8 rfl 79 _ (0, 0) _ H87.out Try.underlying79 rfl size_sums ?_)
                  | (refine wpList_store_row rfl 79 _ _ rfl _ _ rfl rfl 79 _ H6'.out size_sums rfl (one_three _ _ _ _ _ _ _ _ _) ?_))
                refine ret_row rfl w.heap.size 79 _ (0, 0) _ rfl (heap_row _ H6'.out) Try.underlying79 rfl size_sums rfl ⟨_, _, _, k, rfl, SM.out _, HSTP.out, KR.out.setRow (.inr (Nat.le_refl _)) _⟩
        · have hke : k = gg := by omega
          have hdd : decide (k < gg) = false := decide_eq_false hlt
          have HST := Lib.hid (show Stp P k g by rw [hke, ← HGG.out]; exact stp_all P g)
          clear hlt hk hke
          have H6' := Lib.hid (HK.out.heap H62.out id)
          have KR := Lib.hid (nix_trans K1.out (nix_trans K2.out HK.out))
          obtain ⟨vo, vc', hvv, -⟩ := owns_shape RK.out.1
          subst hvv
          have KZ := Lib.hid (fun cs => (Kept.refl (One w.heap.size) w5).setRow (.inl rfl) cs)
          have hnot : ∀ {e : TypeId} {size : Nat} {x : Value} {m : Nat} {xs : List Value}, w5.ownsRow w2.heap.size e size x m xs → ∀ kk, x.ownBlock = some kk → ¬ One w.heap.size kk := fun h kk hkk he => by have := (own_lt h hkk).1; have h2 : kk = w.heap.size := he; have := HL8.out; omega
          have SM := Lib.hid (fun cs => Sums.mk (P := P) (K := k) (VC.out _ (KR.out.setRow (.inr (Nat.le_refl _)) cs)) (sl_of_owns ((KZ.out cs).owns OU.out (hnot OU.out))) (RK.out.other (KZ.out cs) (fun kk cur t hs hh => by
            have h2 : kk = w.heap.size := hs
            subst h2
            rw [H6'.out] at hh
            cases hh
            exact ⟨by decide, by decide⟩)).chs)
          clear hnot
          obtain ⟨qo, qc, hqq, -⟩ := owns_shape OU.out
          subst hqq
          go_wp2_with (first
            | (refine wpList_load_row rfl 79 _ rfl g8 rfl 79 _ (0, 0) _ H8.out Try.underlying79 rfl size_sums ?_)
            | (refine wpList_store_row rfl 79 _ _ rfl _ _ rfl rfl 79 _ H6'.out size_sums rfl (one_three _ _ _ _ _ _ _ _ _) ?_))
          refine ret_row rfl w.heap.size 79 _ (0, 0) _ rfl (heap_row _ H6'.out) Try.underlying79 rfl size_sums rfl ⟨_, _, _, k, rfl, SM.out _, HST.out, KR.out.setRow (.inr (Nat.le_refl _)) _⟩

end Go.Proofs.Ytlbnjclchmnomaa
