/- The walk of LpcParts. -/
import Derived.Test.YtkpmofomlplihaaAwake12
import Derived.Test.YtkpmofomlplihaaArgLpc
namespace Go.Proofs.Ytkpmofomlplihaa
open Go.RowKit Bx

/-- What is right is so because nothing is wrong. -/
theorem lres_inv {s p : Int} {F x : List Int} (h : lresE s p F x = 0) : lpcB s p F = false ∧ F.length ≤ x.length ∧ (lft F s.toNat x).any wide = false ∧ lresL s p F x = lft F s.toNat x := by
  have hl : lresL s p F x = lft F s.toNat x := by unfold lresL; rw [if_pos h]
  unfold lresE at h
  cases hb : lpcB s p F with
  | true => rw [hb] at h; simp at h
  | false =>
    rw [hb] at h
    simp only [Bool.false_eq_true, if_false] at h
    by_cases h2 : x.length < F.length
    · rw [if_pos h2] at h; cases h
    · rw [if_neg h2] at h
      cases hw : (lft F s.toNat x).any wide with
      | true => rw [hw] at h; simp at h
      | false => exact ⟨rfl, by omega, rfl, hl⟩

theorem parts_short {s p : Int} {F x : List Int} (h : lresE s p F x = 0) {k : Nat} (hk : k < F.length) : lresE s p F (x.take k) = 2 :=
  lresE_short (lres_inv h).1 (by rw [List.length_take]; omega)

theorem any_take {L : List Int} (h : L.any wide = false) (k : Nat) : (L.take k).any wide = false := by
  rw [List.any_eq_false] at h ⊢
  exact fun n hn => h n (List.mem_of_mem_take hn)

theorem parts_fit {s p : Int} {F x : List Int} (h : lresE s p F x = 0) {k : Nat} (hk : F.length ≤ k) (hx : k ≤ x.length) : lresE s p F (x.take k) = 0 ∧ lresL s p F (x.take k) = (lresL s p F x).take (k - F.length) ∧ (lresL s p F x).length = x.length - F.length := by
  obtain ⟨h1, h2, h3, h4⟩ := lres_inv h
  have hw : (lft F s.toNat (x.take k)).any wide = false := by rw [lft_take]; exact any_take h3 _
  have hl : F.length ≤ (x.take k).length := by rw [List.length_take]; omega
  refine ⟨lresE_ok h1 hl hw, ?_, by rw [h4, lft_length]⟩
  rw [lresL_ok h1 hl hw, h4, lft_take]

theorem cut_nums (n l : Nat) (hn : n < 256) (hl : l ≤ 80) : ∃ k : Nat, k ≤ l ∧ wrap64 (n : Int) = n ∧ wrap64 ((l : Int) + 1) = (l : Int) + 1 ∧ (n : Int).tmod ((l : Int) + 1) = (k : Int) := by
  refine ⟨n % (l + 1), ?_, w64_in _ (by omega), w64_in _ (by omega), ?_⟩
  · have := Nat.mod_lt n (show 0 < l + 1 by omega); omega
  · rw [Int.tmod_eq_emod_of_nonneg (by omega)]; rfl

set_option maxRecDepth 10000 in
set_option maxHeartbeats 4000000 in
theorem walk_LpcParts (w : World) (v : Value) (x : List Int) (hx : Sl w v (x.map (Value.int .i64))) (_ : ∀ n ∈ x, (Lit.int .i64 n).wf = true)
    (s p : Int) (_ : (Lit.int .i64 s).wf = true) (_ : (Lit.int .i64 p).wf = true) (u : Value) (F : List Int) (hu : Sl w u (F.map (Value.int .i64))) (_ : ∀ n ∈ F, (Lit.int .i64 n).wf = true)
    (at_ : Int) (hat : (Lit.int .u8 at_).wf = true) :
    Calls Try.prog 8 #[v, .agg #[.int .i64 s, .int .i64 p, u], .int .u8 at_] w fun e w' => e = .returned (.bool true) ∧ Kept Nix w w' := by
  have hu' := sl_ivs hu
  have hx' := sl_ivs hx
  obtain ⟨an, rfl, han⟩ := nat_u8 hat
  obtain ⟨ao, ca, rfl, -⟩ := hu'.ints
  obtain ⟨bo, cb, rfl, hcb, -⟩ := hx'.ints
  have k1 : Kept Nix w (w.alloc (.cells #[.int .i64 s, .int .i64 p, .slice ao F.length ca] 24)) := (Kept.refl _ w).alloc _
  have HB := Lib.hid (fun w' (k : Kept Nix (w.alloc (.cells #[.int .i64 s, .int .i64 p, .slice ao F.length ca] 24)) w') => k.heap (heap_alloc_new w (.cells #[.int .i64 s, .int .i64 p, .slice ao F.length ca] 24)) id)
  have CC := Lib.hid (fun w' k => lpc_cells w s p (.slice ao F.length ca) 24 w' k)
  have HU := Lib.hid (hu'.nix k1)
  have HX := Lib.hid (hx'.nix k1)
  have K1 := Lib.hid k1
  have HCB := Lib.hid hcb
  clear hu hx hu' hx' k1 hat hcb
  go_enter Try.func8, Try.ntmps8
  go_upto_region 1 with fail
  generalize w.alloc (.cells #[.int .i64 s, .int .i64 p, .slice ao F.length ca] 24) = w1 at *
  generalize w.heap.size = g at *
  have HA := Lib.hid (awake_any w1)
  go_upto_region 3 with (first
    | (go_at_call 10; refine HA.out.mono ?_; rintro e w2 ⟨rfl, k2⟩; have K2 := Lib.hid k2; clear k2 HA; have NR := Lib.hid (rnear_any _ x w2 (HX.out.nix K2.out)))
    | (go_at_call 11; refine NR.out.mono ?_; rintro e w3 ⟨rfl, rfl⟩; clear NR))
  by_cases hlen : 80 < x.length
  · have hd : decide ((80 : Int) < (x.length : Int)) = true := decide_eq_true (by omega)
    clear hlen han
    go_wp2
    go_ret
    exact ⟨rfl, nix_trans K1.out K2.out⟩
  have hd : decide ((80 : Int) < (x.length : Int)) = false := decide_eq_false (by omega)
  cases hn : near x with
  | false =>
    clear hlen han
    go_wp2
    go_ret
    exact ⟨rfl, nix_trans K1.out K2.out⟩
  | true =>
    obtain ⟨y0, y1, y2⟩ := CC.out _ K2.out
    by_cases hlF : 40 < F.length
    · have hd2 : decide ((40 : Int) < (F.length : Int)) = true := decide_eq_true (by omega)
      clear hlen hlF han
      go_wp2
      go_ret
      exact ⟨rfl, nix_trans K1.out K2.out⟩
    have hd2 : decide ((40 : Int) < (F.length : Int)) = false := decide_eq_false (by omega)
    obtain ⟨k, hkl, n1, n2, n3⟩ := cut_nums an x.length han (by omega)
    have hz : ¬ (x.length : Int) + 1 = 0 := by omega
    have HNB := Lib.hid (near_bd hn)
    have RS1 := Lib.hid (lres_any s p _ _ F x w3 (HU.out.nix K2.out) (HX.out.nix K2.out) HNB.out (by omega))
    have RS2 := Lib.hid (fun w' (kk : Kept Nix w3 w') => lres_any s p _ _ F (x.take k) w' (HU.out.nix (nix_trans K2.out kk)) (sl_take_i (HX.out.nix (nix_trans K2.out kk)) k hkl) (bd_take HNB.out k) (by rw [List.length_take]; omega))
    have hf1 := fun w => run_upto_i w bo x.length cb k (by have := HCB.out; omega)
    have hf2 := fun w => run_upto_i_at w bo x.length cb k (by have := HCB.out; omega)
    have HB3 := Lib.hid (fun w' (k : Kept Nix w3 w') => HB.out w' (nix_trans K2.out k))
    have CC3 := Lib.hid (fun w' (k : Kept Nix w3 w') => CC.out w' (nix_trans K2.out k))
    have HKL := Lib.hid hkl
    have HLX := Lib.hid (show x.length ≤ 80 by omega)
    have KX := Lib.hid (nix_trans K1.out K2.out)
    clear hlen hlF hn hkl han
    have PS := Lib.hid (fun h hk => parts_short (s := s) (p := p) (F := F) (x := x) h (k := k) hk)
    have PF := Lib.hid (fun h hk => parts_fit (s := s) (p := p) (F := F) (x := x) h (k := k) hk HKL.out)
    unfold LResPost at RS1 RS2
    generalize lresE s p F x = E at *
    generalize lresL s p F x = L at *
    generalize lresE s p F (x.take k) = E2 at *
    generalize lresL s p F (x.take k) = L2 at *
    generalize x.length = l at *
    generalize F.length = n at *
    go_upto_region 7 with (first
      | (refine wpList_load_row rfl 24 _ rfl g rfl 24 _ (0, 0) _ (HB3.out _ (Kept.refl _ _)) Try.underlying24 rfl size_lpc ?_)
      | (go_at_call 12; refine RS1.out.mono ?_; rintro e w4 ⟨u4, rfl, o4, k4⟩; clear RS1; obtain ⟨uo4, uc4, rfl, hc4, -⟩ := owns_shape o4; have K4 := Lib.hid k4; have S4 := Lib.hid (sl_of_owns o4); have HC4 := Lib.hid hc4; clear k4 o4 hc4))
    clear hd hd2 y0 y1 y2 n1 n2 n3 hz
    obtain ⟨y0, y1, y2⟩ := CC3.out _ K4.out.drew
    have R2 := Lib.hid (RS2.out _ K4.out.drew)
    clear RS2
    go_region_law
      (first
        | (go_simp; go_at_call 12; refine R2.out.mono ?_; rintro e w5 ⟨u5, rfl, o5, k5⟩; obtain ⟨uo5, uc5, rfl, -, -⟩ := owns_shape o5; have K45 := Lib.hid (nix_trans ((Kept.refl Nix w4).drew) k5); have S5 := Lib.hid (sl_of_owns o5); clear k5 o5))
    all_goals
      have K5 := Lib.hid (nix_trans K4.out K45.out)
      have KW := Lib.hid (nix_trans KX.out K5.out)
      clear y0 y1 y2 hf1 hf2 R2
      by_cases hE : E = 0
      · subst hE
        obtain ⟨y0, y1, y2⟩ := CC3.out _ K5.out
        by_cases hkn : k < n
        · have hE2 := PS.out rfl hkn
          subst hE2
          have hdk : decide ((k : Int) < (n : Int)) = true := decide_eq_true (by omega)
          have hdk2 : decide (k < n) = true := decide_eq_true hkn
          clear hkn PS PF
          go_wp2
          go_ret
          exact ⟨rfl, KW.out⟩
        · obtain ⟨q1, q2, q3⟩ := PF.out rfl (Nat.le_of_not_lt hkn)
          subst q1
          have hdk : decide ((k : Int) < (n : Int)) = false := decide_eq_false (by omega)
          have hdk2 : decide (k < n) = false := decide_eq_false hkn
          have hl2 : L2.length = k - n := by rw [q2, List.length_take, q3]; have := HKL.out; omega
          have hle : L2.length ≤ L.length := by rw [hl2, q3]; have := HKL.out; omega
          have hdl : decide ((L2.length : Int) ≤ (L.length : Int)) = true := decide_eq_true (by omega)
          have hdl2 : decide (L2.length ≤ L.length) = true := decide_eq_true hle
          have hg1 := fun w => run_upto_i w uo4 L.length uc4 L2.length (by have := HC4.out; omega)
          have hg2 := fun w => run_upto_i_at w uo4 L.length uc4 L2.length (by have := HC4.out; omega)
          have II := Lib.hid (ints_eq (sl_take_i (S4.out.nix K45.out) L2.length hle) S5.out (by rw [List.length_take]; have := HLX.out; omega) (by rw [hl2, ← q2]))
          clear hkn PS PF q2 q3 hl2 hle
          go_wp2_with (go_at_call 16; refine II.out.mono ?_; rintro e w6 ⟨rfl, n6, rfl⟩; clear II)
          go_ret
          exact ⟨rfl, KW.out.drewN n6⟩
      · have hne : (E != 0) = true := bne_iff_ne.2 hE
        clear hE PS PF
        go_wp2
        go_ret
        exact ⟨rfl, KW.out⟩

end Go.Proofs.Ytkpmofomlplihaa
