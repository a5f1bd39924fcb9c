/- The walk of LpcRestores. -/
import Derived.Test.YtkpmofomlplihaaAwake12
import Derived.Test.YtkpmofomlplihaaRLpcRst
import Derived.Test.YtkpmofomlplihaaArgLpc
namespace Go.Proofs.Ytkpmofomlplihaa
open Go.RowKit Bx

theorem rrst_same {s p : Int} {F A B : List Int} (h : near (RRstL s p F A B) = true) : lrstL s p F A B = RRstL s p F A B ∧ (lrstE s p F A = 0 → ∀ i, i < B.length → Bd 1099511627776 (lrst F s.toNat A (B.take i))) := by
  unfold RRstL lrstL at *
  by_cases h0 : lrstE s p F A = 0
  · rw [if_pos h0] at h ⊢
    rw [if_pos h0]
    have e := lstop_near F s.toNat B A h
    rw [e] at h
    exact ⟨e.symm, fun _ i _ => lrst_near_take h i⟩
  · rw [if_neg h0, if_neg h0]
    exact ⟨rfl, fun h1 => absurd h1 h0⟩

theorem lstop_length (F : List Int) (S : Nat) : ∀ (B A : List Int), (lstop F S A B).length ≤ A.length + B.length := by
  intro B
  induction B with
  | nil => intro A; rw [lstop]; simp
  | cons b B ih =>
    intro A
    rw [lstop]
    split
    · simp
    · have := ih (A ++ [b + td F S A A.length])
      simp only [List.length_append, List.length_cons, List.length_nil] at this ⊢
      omega

theorem RRstL_len {s p : Int} {F A B : List Int} (hA : A.length ≤ 40) (hB : B.length ≤ 50) : (RRstL s p F A B).length < 1099511627776 := by
  unfold RRstL
  split
  · have := lstop_length F s.toNat B A; omega
  · decide

set_option maxRecDepth 10000 in
set_option maxHeartbeats 4000000 in
theorem walk_LpcRestores (w : World) (va : Value) (A : List Int) (ha : Sl w va (A.map (Value.int .i64))) (_ : ∀ n ∈ A, (Lit.int .i64 n).wf = true) (vb : Value) (B : List Int) (hb : Sl w vb (B.map (Value.int .i64))) (_ : ∀ n ∈ B, (Lit.int .i64 n).wf = true)
    (s p : Int) (_ : (Lit.int .i64 s).wf = true) (_ : (Lit.int .i64 p).wf = true) (u : Value) (F : List Int) (hu : Sl w u (F.map (Value.int .i64))) (_ : ∀ n ∈ F, (Lit.int .i64 n).wf = true) :
    Calls Try.prog 4 #[va, vb, .agg #[.int .i64 s, .int .i64 p, u]] w fun e w' => e = .returned (.bool true) ∧ Kept Nix w w' := by
  have hu' := sl_ivs hu
  have ha' := sl_ivs ha
  have hb' := sl_ivs hb
  obtain ⟨ao, ca, rfl, -⟩ := hu'.ints
  obtain ⟨wo, cw, rfl, -⟩ := ha'.ints
  obtain ⟨bo, cb, rfl, -⟩ := hb'.ints
  have k1 : Kept Nix w (w.alloc (.cells #[.int .i64 s, .int .i64 p, .slice ao F.length ca] 24)) := (Kept.refl _ w).alloc _
  have HB := Lib.hid (fun w' (k : Kept Nix (w.alloc (.cells #[.int .i64 s, .int .i64 p, .slice ao F.length ca] 24)) w') => k.heap (heap_alloc_new w (.cells #[.int .i64 s, .int .i64 p, .slice ao F.length ca] 24)) id)
  have CC := Lib.hid (fun w' k => lpc_cells w s p (.slice ao F.length ca) 24 w' k)
  have HU := Lib.hid (hu'.nix k1)
  have HVA := Lib.hid (ha'.nix k1)
  have HVB := Lib.hid (hb'.nix k1)
  have K1 := Lib.hid k1
  clear hu ha hb hu' ha' hb' k1
  go_enter Try.func4, Try.ntmps4
  go_upto_region 1 with fail
  generalize w.alloc (.cells #[.int .i64 s, .int .i64 p, .slice ao F.length ca] 24) = w1 at *
  generalize w.heap.size = g at *
  have HA := Lib.hid (awake_any w1)
  go_upto_region 4 with (first
    | (go_at_call 10; refine HA.out.mono ?_; rintro e w2 ⟨rfl, k2⟩; have K2 := Lib.hid k2; clear k2 HA; have NA := Lib.hid (rnear_any _ A w2 (HVA.out.nix K2.out)); have NB := Lib.hid (rnear_any _ B w2 (HVB.out.nix K2.out)))
    | (go_at_call 11; refine NA.out.mono ?_; rintro e w3 ⟨rfl, rfl⟩; clear NA)
    | (go_at_call 11; refine NB.out.mono ?_; rintro e w3 ⟨rfl, rfl⟩; clear NB))
  have KX := Lib.hid (nix_trans K1.out K2.out)
  obtain ⟨y0, y1, y2⟩ := CC.out _ K2.out
  by_cases hall : A.length ≤ 40 ∧ B.length ≤ 50 ∧ near A = true ∧ near B = true ∧ F.length ≤ 40
  · obtain ⟨h1, h2, h3, h4, h5⟩ := hall
    have hd1 : decide ((40 : Int) < (A.length : Int)) = false := decide_eq_false (by omega)
    have hd2 : decide ((50 : Int) < (B.length : Int)) = false := decide_eq_false (by omega)
    have hd3 : decide ((40 : Int) < (F.length : Int)) = false := decide_eq_false (by omega)
    have HNA := Lib.hid (near_bd h3)
    have HNB := Lib.hid (near_bd h4)
    have HLR := Lib.hid (RRstL_len (s := s) (p := p) (F := F) h1 h2)
    have HLB := Lib.hid h2
    have RS := Lib.hid (rlrst_any s p _ _ _ F A B w3 (HU.out.nix K2.out) (HVA.out.nix K2.out) (HVB.out.nix K2.out) (by omega) HNA.out HNB.out)
    unfold RRstPost at RS
    rw [h3, h4]
    clear h1 h2 h3 h4 h5
    have HFU := Lib.hid (HU.out.nix K2.out)
    have HFA := Lib.hid (HVA.out.nix K2.out)
    have HFB := Lib.hid (HVB.out.nix K2.out)
    have HB3 := Lib.hid (fun w' (k : Kept Nix w3 w') => HB.out w' (nix_trans K2.out k))
    have HSM := Lib.hid (fun h => rrst_same (s := s) (p := p) (F := F) (A := A) (B := B) h)
    generalize hR : RRstL s p F A B = R at *
    go_upto_region 7 with (first
      | (refine wpList_load_row rfl 24 _ rfl g rfl 24 _ (0, 0) _ (HB3.out _ (Kept.refl _ _)) Try.underlying24 rfl size_lpc ?_)
      | (go_at_call 17; refine RS.out.mono ?_; rintro e w4 ⟨u4, rfl, o4, k4⟩; clear RS; have K4 := Lib.hid k4; have S4 := Lib.hid (sl_of_owns o4); clear k4 o4))
    clear hd1 hd2 hd3 y0 y1 y2
    have NR := Lib.hid (rnear_any _ R w4 S4.out)
    go_upto_region 8 with (go_at_call 11; refine NR.out.mono ?_; rintro e w5 ⟨rfl, rfl⟩; clear NR)
    cases hn : near R with
    | false =>
      go_wp2
      go_ret
      exact ⟨rfl, nix_trans KX.out K4.out⟩
    | true =>
      have HS := Lib.hid (HSM.out hn)
      have QS := Lib.hid (lrst_any s p _ _ _ F A B w5 (HFU.out.nix K4.out) (HFA.out.nix K4.out) (HFB.out.nix K4.out) (by have := HLB.out; omega) HNB.out HS.out.2)
      unfold LRstPost at QS
      rw [HS.out.1] at QS
      clear hn hR HSM HS
      generalize lrstE s p F A = E at *
      have hee : (E == E) = true := beq_self_eq_true _
      generalize A.length = la at *
      generalize B.length = lb at *
      generalize F.length = n at *
      go_wp2_with (first
        | (refine wpList_load_row rfl 24 _ rfl g rfl 24 _ (0, 0) _ (HB3.out _ K4.out) Try.underlying24 rfl size_lpc ?_)
        | (go_at_call 18; refine QS.out.mono ?_; rintro e w6 ⟨u6, rfl, o6, k6⟩; clear QS; have K6 := Lib.hid k6; have II := Lib.hid (ints_eq (sl_of_owns o6) (S4.out.nix k6) HLR.out rfl); clear k6 o6)
        | (go_at_call 16; refine II.out.mono ?_; rintro e w7 ⟨rfl, n7, rfl⟩; clear II))
      go_ret
      exact ⟨rfl, nix_trans KX.out (nix_trans K4.out (K6.out.drewN n7))⟩
  · have hcases : (decide ((40 : Int) < (A.length : Int)) = true) ∨ (decide ((40 : Int) < (A.length : Int)) = false ∧ decide ((50 : Int) < (B.length : Int)) = true) ∨ (decide ((40 : Int) < (A.length : Int)) = false ∧ decide ((50 : Int) < (B.length : Int)) = false ∧ near A = false) ∨ (decide ((40 : Int) < (A.length : Int)) = false ∧ decide ((50 : Int) < (B.length : Int)) = false ∧ near A = true ∧ near B = false) ∨ (decide ((40 : Int) < (A.length : Int)) = false ∧ decide ((50 : Int) < (B.length : Int)) = false ∧ near A = true ∧ near B = true ∧ decide ((40 : Int) < (F.length : Int)) = true) := by
      simp only [decide_eq_true_eq, decide_eq_false_iff_not]
      cases h3 : near A <;> cases h4 : near B <;> simp [h3, h4] at hall ⊢ <;> omega
    clear hall HVA HVB HU HB CC
    generalize near A = nA at *
    generalize near B = nB at *
    generalize A.length = la at *
    generalize B.length = lb at *
    generalize F.length = n at *
    rcases hcases with a1 | ⟨a1, a2⟩ | ⟨a1, a2, rfl⟩ | ⟨a1, a2, rfl, rfl⟩ | ⟨a1, a2, rfl, rfl, a5⟩
    all_goals go_wp2
    all_goals go_ret
    all_goals exact ⟨rfl, KX.out⟩

end Go.Proofs.Ytkpmofomlplihaa
