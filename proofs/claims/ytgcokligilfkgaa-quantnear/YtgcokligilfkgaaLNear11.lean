/- The walk of QuantNear. -/
import Derived.Test.YtgcokligilfkgaaQuArg
namespace Go.Proofs.Ytgcokligilfkgaa
open Go.RowKit Bx

theorem near_ends {P : Nat} (h2 : 2 ≤ P) (h15 : P ≤ 15) : ∃ (H : Int) (q : Nat), 2 ^ (P - 1) = H ∧ 2 ≤ H ∧ H ≤ 16384 ∧ wrap64 ((P : Int) - 1) = (q : Int) ∧ wrap64 (2 ^ min q 64) = H ∧ wrap64 (-H) = -H ∧ wrap64 (H - 1) = H - 1 := by
  have h1 := pw2 (P - 1) 14 (by omega)
  have h0 := pw2 1 (P - 1) (by omega)
  refine ⟨2 ^ (P - 1), P - 1, rfl, h0, h1, by unfold wrap64; omega, ?_, w64_in _ (by omega), w64_in _ (by omega)⟩
  rw [Nat.min_eq_left (show P - 1 ≤ 64 by omega)]
  exact w64_in _ (by omega)

/-- A factor that stands at no end. -/
theorem near_nums {H : Int} {s : Nat} {zs : List Int} (f : Fit H (2 ^ s) zs) (hs : s ≤ 15) (hl : zs.length ≤ 32) (i : Nat) (hi : i < zs.length) (h1 : ¬ tell H (wnt H (2 ^ s) zs i) = H - 1) (h2 : ¬ tell H (wnt H (2 ^ s) zs i) = -H) (hc : -524288 ≤ car H (2 ^ s) zs i ∧ car H (2 ^ s) zs i ≤ 524288) : ∃ M X W Y S : Int, IntKind.i64.wrap (2 ^ min s 64) = M ∧ IntKind.i64.wrap (zs.getD i 0 * M) = X ∧ IntKind.i64.wrap (car H (2 ^ s) zs i + X) = W ∧
    IntKind.i64.wrap (tell H (wnt H (2 ^ s) zs i) * 1048576) = Y ∧ IntKind.i64.wrap (W - Y) = S ∧ car H (2 ^ s) zs (i + 1) = S ∧ -524288 ≤ S ∧ S ≤ 524288 := by
  obtain ⟨w1, w2, x1, x2⟩ := wnt_bd f i hi hl
  have e1 := f.h1
  have e2 := f.h2
  have ht := tell_in H (wnt H (2 ^ s) zs i) (by omega)
  have hp1 := pw2 0 s (by omega)
  have hp2 := pw2 s 15 hs
  have hS : -524288 ≤ wnt H (2 ^ s) zs i - tell H (wnt H (2 ^ s) zs i) * 1048576 ∧ wnt H (2 ^ s) zs i - tell H (wnt H (2 ^ s) zs i) * 1048576 ≤ 524288 := by
    unfold tell at h1 h2 ⊢
    generalize wnt H (2 ^ s) zs i = W at *
    omega
  refine ⟨2 ^ s, zs.getD i 0 * 2 ^ s, wnt H (2 ^ s) zs i, _, _, ?_, ?_, ?_, rfl, rfl, ?_, ?_⟩
  · rw [Nat.min_eq_left (show s ≤ 64 by omega), IntKind.wrap_i64]
    omega
  · rw [IntKind.wrap_i64]
    omega
  · rw [IntKind.wrap_i64]
    unfold wnt at w1 w2 ⊢
    omega
  · rw [car_succ, IntKind.wrap_i64, IntKind.wrap_i64]
    omega
  · rw [IntKind.wrap_i64, IntKind.wrap_i64]
    omega

def NearInv11 (v : Value) (zs : List Int) (H m : Int) (P g l : Nat) (w : World) (a : Act) (w' : World) : Prop :=
  a.defers = [] ∧ a.tmps.size = 100 ∧ a.tmps[0]? = some v ∧ a.tmps[5]? = some (.bool true) ∧ a.tmps[7]? = some (.int .i64 (P : Int)) ∧ a.tmps[8]? = some (.pointer (some ⟨g, 0, none⟩)) ∧ ∃ i : Nat, i ≤ l ∧ a.tmps[11]? = some (.int .i64 (i : Int)) ∧ a.tmps[10]? = some (.int .i64 (car H m zs i)) ∧ (-524288 ≤ car H m zs i ∧ car H m zs i ≤ 524288) ∧ ∃ n, w' = w.drewN n

set_option maxRecDepth 10000 in
set_option maxHeartbeats 2000000 in
theorem walk_QuantNear (w : World) (v : Value) (zs : List Int) (hz : Sl w v (zs.map (Value.int .i64))) (hw : ∀ n ∈ zs, (Lit.int .i64 n).wf = true) (a : Int) (ha : (Lit.int .u8 a).wf = true) :
    Calls Try.prog 5 #[v, .int .u8 a] w fun e w' => e = .returned (.bool true) ∧ Kept Nix w w' := by
  obtain ⟨n, P, r, rfl, p1, p2, p3, p4, p5⟩ := prec_of ha
  have HA := awake_any w
  have HZ := Lib.hid (sl_ivs hz)
  obtain ⟨ao, ca, rfl, hc, -⟩ := hz.ints
  clear hz hc ha
  have HW := Lib.hid hw
  have HP := Lib.hid (And.intro p4 p5)
  clear hw p4 p5
  go_enter Try.func5, Try.ntmps5
  go_upto_region 4 with (first
    | (go_at_call 8; refine HA.mono ?_; rintro e w1 ⟨rfl, k1⟩; have K1 := Lib.hid k1; clear k1 HA; have NR := Lib.hid (rnear_any _ zs w1 (HZ.out.nix K1.out)))
    | (go_at_call 9; refine NR.out.mono ?_; rintro e w2 ⟨rfl, rfl⟩; clear NR))
  clear p1 p2 p3
  have QU := Lib.hid (quant_any _ zs (P : Int) w2 (HZ.out.nix K1.out) HW.out)
  unfold QPost QPostR at QU
  rcases qz_cases zs HP.out.1 HP.out.2 with ⟨E, hE, hq⟩ | ⟨s, hs, -, -, -, hl32, hf, hq⟩
  · rw [hq] at QU
    simp only at QU
    have hE0 : (E != 0) = true := bne_iff_ne.2 (by omega)
    have hdd : (32 < zs.length ∧ decide ((32 : Int) < (zs.length : Int)) = true) ∨ decide ((32 : Int) < (zs.length : Int)) = false := by
      by_cases h : 32 < zs.length
      · exact .inl ⟨h, decide_eq_true (by omega)⟩
      · exact .inr (decide_eq_false (by omega))
    clear hq hE
    generalize zs.length = l at *
    go_upto_region 5 with (first
      | (go_at_call 10; refine QU.out.mono ?_; rintro e w3 ⟨u, rfl, o3, k3⟩; clear QU
         obtain ⟨uo, uc, rfl, -, -⟩ := owns_shape o3
         have K3 := Lib.hid (nix_trans K1.out k3); clear o3 k3)
      | (refine wpList_store_row rfl 26 _ _ rfl _ _ rfl rfl 26 _ (heap_alloc_new w3 _) size_lpc rfl (one_lpc _ _ _ _ _) ?_))
    obtain ⟨k4, -⟩ := put_lpc w3 0 0 (.slice uo ([] : List Int).length uc) _ rfl
    generalize World.setRow _ _ _ = w4 at *
    have K4 := Lib.hid (nix_trans K3.out k4)
    clear k4
    rcases hdd with ⟨-, hd⟩ | hd
    · go_wp2
      go_ret
      exact ⟨rfl, K4.out⟩
    · cases hn : near zs
      all_goals go_wp2
      all_goals go_ret
      all_goals exact ⟨rfl, K4.out⟩
  · rw [hq] at QU
    simp only at QU
    obtain ⟨H, q, b0, b1, b2, b3, b4, b5, b6⟩ := near_ends HP.out.1 HP.out.2
    rw [b0] at QU hf
    have HF := Lib.hid hf
    have HLT := Lib.hid (tolds_length H (2 ^ s) zs)
    have HTG := Lib.hid (fun i hi => tolds_get H (2 ^ s) zs i hi)
    have HL32 := Lib.hid hl32
    have HS := Lib.hid hs
    have hd : decide ((32 : Int) < (zs.length : Int)) = false := decide_eq_false (by omega)
    have hs1 : decide ((s : Int) < 0) = false := decide_eq_false (by omega)
    have hs2 : decide (15 < (s : Int)) = false := decide_eq_false (by omega)
    clear hq hf b0 b1 b2 hs hl32
    generalize tolds H (2 ^ s) zs = L at *
    generalize hl : zs.length = l at *
    have HLL := Lib.hid hl
    clear hl
    go_upto_region 5 with (first
      | (go_at_call 10; refine QU.out.mono ?_; rintro e w3 ⟨u, rfl, o3, k3⟩; clear QU
         obtain ⟨uo, uc, rfl, -, -⟩ := owns_shape o3
         have K3 := Lib.hid (nix_trans K1.out k3); have S3 := Lib.hid (sl_of_owns o3); clear o3 k3)
      | (refine wpList_store_row rfl 26 _ _ rfl _ _ rfl rfl 26 _ (heap_alloc_new w3 _) size_lpc rfl (one_lpc _ _ _ _ _) ?_))
    obtain ⟨k4, hc4⟩ := put_lpc w3 (s : Int) (P : Int) (.slice uo L.length uc) _ rfl
    generalize World.setRow _ _ _ = w4 at *
    generalize w3.heap.size = g at *
    have K4 := Lib.hid (nix_trans K3.out k4)
    have S4 := Lib.hid (S3.out.nix k4)
    have Z4 := Lib.hid (HZ.out.nix K4.out)
    have C4 := Lib.hid (fun n => (hc4 (w4.drewN n) ((Kept.refl _ _).drewN n)).2)
    clear hc4 k4
    rw [HLT.out] at S4 C4 ⊢
    cases hn : near zs
    · go_wp2
      go_ret
      exact ⟨rfl, K4.out⟩
    obtain ⟨y0, y1, y2⟩ := C4.out 0
    rw [show w4.drewN 0 = w4 from rfl] at y0 y1 y2
    have hne : ((l : Int) != (l : Int)) = false := bne_self_eq_false _
    go_wp2
    clear y0 y1 y2 hs1 hs2 hd hne
    refine wp_loop (NearInv11 (.slice ao l ca) zs H (2 ^ s) P g l w4) (fun a _ => l - (intOf (a.tmps.getD 11 undef)).toNat) ?_ ?_
    · exact ⟨rfl, rfl, rfl, rfl, rfl, rfl, 0, Nat.zero_le _, rfl, rfl, by simp [car], 0, rfl⟩
    · rintro ⟨tm, df⟩ w5 ⟨rfl, hs, h0, h5, h7, h8, i, hi, h11, h10, hcb, n1, rfl⟩
      simp only at hs h0 h5 h7 h8 h10 h11
      obtain ⟨f, hf, hg⟩ := fr_open hs
      have e0 := hg _ _ h0
      have e5 := hg _ _ h5
      have e7 := hg _ _ h7
      have e8 := hg _ _ h8
      have e10 := hg _ _ h10
      have e11 := hg _ _ h11
      simp only [List.range, List.range.loop, List.map] at hf
      rw [e0, e5, e7, e8, e10, e11] at hf
      clear e0 e5 e7 e8 e10 e11 hg hs h0 h5 h7 h8 h10 h11
      subst hf
      have HCB := Lib.hid hcb
      clear hcb
      by_cases hlt : i < l
      · obtain ⟨c0, -, c2⟩ := C4.out n1
        obtain ⟨b1', o1, rfl, hc1⟩ := cell_kept S4.out i (by rw [HLT.out]; exact hlt)
        obtain ⟨b2', o2, rfl, hc2⟩ := cell_kept Z4.out i (by rw [HLL.out]; exact hlt)
        have x1 := hc1 (w4.drewN n1) ((Kept.refl _ _).drewN n1)
        have x2 := hc2 (w4.drewN n1) ((Kept.refl _ _).drewN n1)
        rw [HTG.out i hlt] at x1
        have hi1 : (i : Int) < (l : Int) := by omega
        have hdd : decide (i < l) = true := decide_eq_true hlt
        have hw1 : wrap64 ((i : Int) + 1) = ((i + 1 : Nat) : Int) := by have := HL32.out; unfold wrap64; omega
        have HW1 := Lib.hid hw1
        have HI := Lib.hid hlt
        have NN := Lib.hid (fun h1 h2 => near_nums HF.out HS.out (by rw [HLL.out]; exact HL32.out) i (by rw [HLL.out]; exact hlt) h1 h2 HCB.out)
        clear hc1 hc2 hlt hi hw1
        generalize hT : tell H (wnt H (2 ^ s) zs i) = T at *
        have HT := Lib.hid hT
        clear hT
        generalize hw5 : w4.drewN n1 = w5 at *
        have HW5 := Lib.hid hw5
        clear hw5
        by_cases t1 : T = H - 1
        · have d1 : (T == H - 1) = true := beq_iff_eq.2 t1
          clear t1
          go_wp2
          go_ret
          exact ⟨rfl, by rw [← HW5.out]; exact K4.out.drewN _⟩
        by_cases t2 : T = -H
        · have d1 : (T == H - 1) = false := beq_eq_false_iff_ne.2 t1
          have d2 : (T == -H) = true := beq_iff_eq.2 t2
          clear t1 t2
          go_wp2
          go_ret
          exact ⟨rfl, by rw [← HW5.out]; exact K4.out.drewN _⟩
        have d1 : (T == H - 1) = false := beq_eq_false_iff_ne.2 t1
        have d2 : (T == -H) = false := beq_eq_false_iff_ne.2 t2
        obtain ⟨M, X, W, Y, S, m1, m2, m3, m4, m5, m6, m7, m8⟩ := NN.out t1 t2
        have M6 := Lib.hid m6
        have M78 := Lib.hid (And.intro m7 m8)
        have f1 : decide (524288 < S) = false := decide_eq_false (by omega)
        have f2 : decide (S < -524288) = false := decide_eq_false (by omega)
        clear t1 t2 m6 m7 m8
        generalize car H (2 ^ s) zs i = c at *
        generalize zs.getD i 0 = x at *
        go_wp2
        go_quiet (fail)
        clear d1 d2 m1 m2 m3 m4 m5 b3 b4 b5 b6
        go_wp2
        rw [HW1.out]
        refine ⟨⟨rfl, rfl, rfl, rfl, rfl, rfl, i + 1, HI.out, rfl, ?_, by rw [M6.out]; exact M78.out, n1 + nq, by rw [← HW5.out, World.drewN_drewN]⟩, nearer HI.out rfl⟩
        rw [M6.out]
        rfl
      · have hd : decide (i < l) = false := decide_eq_false hlt
        have hie : i = l := by omega
        subst hie
        clear hi hlt
        go_wp2
        go_ret
        exact ⟨rfl, K4.out.drewN _⟩

end Go.Proofs.Ytgcokligilfkgaa
