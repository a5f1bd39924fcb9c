/- Package section: Take, the numbers of one part. -/
import Derived.Test.YtlbnjclchmnomaaRndMore
namespace Go.Proofs.Ytlbnjclchmnomaa
open Go.RowKit Go.Shelf Bx
attribute [local go_sem] Oper.semAt_some

noncomputable def stkL : Code := (loopIn 15 (Try.f14.body.getD .skip)).getD .skip

/-- What turns while numbers are taken: the reader, the numbers, what is wrong. -/
def TkS (q gl g10 : Nat) : Nat → Prop := fun k => k = q ∨ k = gl ∨ k = g10

def TkMid (g3 g10 gl z c cap g15 j : Nat) (W : World) : Exit → Act → World → Prop
  | .normal, a, w => a.defers = [] ∧ a.tmps.size = 98 ∧ a.tmps[3]? = some (.pointer (some ⟨g3, 0, none⟩)) ∧ a.tmps[10]? = some (.pointer (some ⟨g10, 0, none⟩)) ∧ a.tmps[14]? = some (.slice (some ⟨gl, z, none⟩) c cap) ∧ a.tmps[15]? = some (.pointer (some ⟨g15, 0, none⟩)) ∧ a.tmps[73]? = some (.int .i64 (c : Int)) ∧ a.tmps[74]? = some (.int .i64 (j : Int)) ∧ w = W
  | _, _, _ => False

def TkInv (base q : Nat) (v : Value) (B : List Nat) (p : Int × Bool) (a0 f0 : Nat) (ls : List Int) (z c cap gl g3 g10 g15 : Nat) (W0 : World) (a : Act) (W : World) : Prop :=
  a.defers = [] ∧ a.tmps.size = 98 ∧ a.tmps[3]? = some (.pointer (some ⟨g3, 0, none⟩)) ∧ a.tmps[10]? = some (.pointer (some ⟨g10, 0, none⟩)) ∧ a.tmps[14]? = some (.slice (some ⟨gl, z, none⟩) c cap) ∧ a.tmps[15]? = some (.pointer (some ⟨g15, 0, none⟩)) ∧ a.tmps[73]? = some (.int .i64 (c : Int)) ∧
  ∃ j : Nat, j ≤ c ∧ a.tmps[74]? = some (.int .i64 (j : Int)) ∧ (tn B p a0 f0 j).e = 0 ∧ Rd base W q v B (tn B p a0 f0 j).a (tn B p a0 f0 j).f ∧ W.heap[gl]? = some (.cells (ivs (lay ls z (tn B p a0 f0 j).xs)).toArray 3 (0, 0)) ∧ W.heap[g10]? = some (.cells #[.int .i64 0] 31 (0, 0)) ∧ Kept (TkS q gl g10) W0 W

set_option maxRecDepth 10000 in
set_option maxHeartbeats 4000000 in
theorem stk_inner (l : Nat) (base q : Nat) (v : Value) (B : List Nat) (k : Int) (r : Bool) (a0 f0 : Nat) (ls : List Int) (z c cap gl g3 g10 g15 : Nat) (W0 : World) (a : Act) (E : Exit → Act → World → Prop)
    (hd : a.defers = []) (hs : a.tmps.size = 98) (h3 : a.tmps[3]? = some (.pointer (some ⟨g3, 0, none⟩))) (h10 : a.tmps[10]? = some (.pointer (some ⟨g10, 0, none⟩))) (h14 : a.tmps[14]? = some (.slice (some ⟨gl, z, none⟩) c cap)) (h15 : a.tmps[15]? = some (.pointer (some ⟨g15, 0, none⟩))) (h73 : a.tmps[73]? = some (.int .i64 (c : Int))) (h74 : a.tmps[74]? = some (.int .i64 0))
    (hr : Rd base W0 q v B a0 f0) (hl : 8 * B.length < 8589934592) (hgl : W0.heap[gl]? = some (.cells (ivs ls).toArray 3 (0, 0))) (hg10 : W0.heap[g10]? = some (.cells #[.int .i64 0] 31 (0, 0)))
    (hg3 : W0.heap[g3]? = some (.cells #[.pointer (some ⟨q, 0, none⟩)] 35 (0, 0))) (hg15 : W0.heap[g15]? = some (.cells #[.int .i64 k, .bool r] 50 (0, 0))) (hk0 : 0 ≤ k) (hk1 : k ≤ 31)
    (hne : gl ≠ q ∧ g10 ≠ q ∧ g3 ≠ q ∧ g15 ≠ q ∧ gl ≠ g10 ∧ g3 ≠ gl ∧ g3 ≠ g10 ∧ g15 ≠ gl ∧ g15 ≠ g10) (hvo : ∀ b, v.ownBlock = some b → b ≠ gl ∧ b ≠ g10) (hz : z + c ≤ ls.length) (hc : c ≤ 65535) (hcap : c ≤ cap)
    (hE1 : ∀ a' W, a'.defers = [] → a'.tmps.size = 98 → (tn B (k, r) a0 f0 c).e = 0 → Rd base W q v B (tn B (k, r) a0 f0 c).a (tn B (k, r) a0 f0 c).f → W.heap[gl]? = some (.cells (ivs (lay ls z (tn B (k, r) a0 f0 c).xs)).toArray 3 (0, 0)) → W.heap[g10]? = some (.cells #[.int .i64 0] 31 (0, 0)) → Kept (TkS q gl g10) W0 W → E (.exit 2) a' W)
    (hE2 : ∀ a' W, (tn B (k, r) a0 f0 c).e ≠ 0 → Rd base W q v B (tn B (k, r) a0 f0 c).a (tn B (k, r) a0 f0 c).f → W.heap[g10]? = some (.cells #[.int .i64 ((tn B (k, r) a0 f0 c).e : Nat)] 31 (0, 0)) → Kept (TkS q gl g10) W0 W → E (.exit 0) a' W) :
    stkL.wpIn (Fence.wide.inRound l) 1 Try.prog E a W0 := by
  have HE1 := Lib.hid hE1
  have HE2 := Lib.hid hE2
  have HNE := Lib.hid hne
  have HVO := Lib.hid hvo
  have HZ := Lib.hid (And.intro hz (And.intro hc hcap))
  have H3 := Lib.hid hg3
  have H15 := Lib.hid hg15
  have TN := Lib.hid (fun a f w' (h : Rd base w' q v B a f) => tnum_any base q v B a f k r w' h hl hk0 hk1)
  have CK := Lib.hid (fun a f x w' (h : Rd base w' q v B a f) => scheck_any base q v B a f x w' h)
  clear hE1 hE2 hne hvo hz hc hcap hg3 hg15 hk0 hk1 hl
  refine wpIn_loop (TkInv base q v B (k, r) a0 f0 ls z c cap gl g3 g10 g15 W0) (fun a _ => c - (intOf (a.tmps.getD 74 undef)).toNat) ?_ ?_
  · exact ⟨hd, hs, h3, h10, h14, h15, h73, 0, Nat.zero_le _, h74, rfl, hr, by rw [show (tn B (k, r) a0 f0 0).xs = [] from rfl, lay_nil]; exact hgl, hg10, Kept.refl _ _⟩
  · clear hd hs h3 h10 h14 h15 h73 h74 hr hgl hg10
    rintro ⟨tm, df⟩ W ⟨rfl, hs, e3, e10, e14, e15, e73, j, hj, e74, hE, hr, hgl, hg10, hk⟩
    simp only at hs e3 e10 e14 e15 e73 e74
    obtain ⟨f, hf, hg⟩ := fr_open hs
    have g3' := hg _ _ e3
    have g10' := hg _ _ e10
    have g14' := hg _ _ e14
    have g15' := hg _ _ e15
    have g73' := hg _ _ e73
    have g74' := hg _ _ e74
    simp only [List.range, List.range.loop, List.map] at hf
    rw [g3', g10', g14', g15', g73', g74'] at hf
    clear g3' g10' g14' g15' g73' g74' hg hs e3 e10 e14 e15 e73 e74
    subst hf
    by_cases hlt : j < c
    · have hdd : decide ((j : Int) < (c : Int)) = true := decide_eq_true (by omega)
      have hj1 : (j : Int) < (c : Int) := by omega
      have hln := tn_len j hE
      have hzj : z + j < (lay ls z (tn B (k, r) a0 f0 j).xs).length := by
        rw [lay_length (by have := HZ.out; omega)]; have := HZ.out; omega
      have ST := Lib.hid (tn_step (B := B) (p := (k, r)) (a := a0) (f := f0) (j := j) hE)
      have FA := Lib.hid (fun h => tn_fail (B := B) (p := (k, r)) (a := a0) (f := f0) (j := j) hE h)
      have SN := Lib.hid (fun x => lay_snoc (ls := ls) (xs := (tn B (k, r) a0 f0 j).xs) (z := z) (by have := HZ.out; omega) x)
      rw [hln] at SN
      have HZJ := Lib.hid hzj
      have HJ := Lib.hid hlt
      have HW := Lib.hid (show wrap64 ((j : Int) + 1) = ((j + 1 : Nat) : Int) by have := HZ.out; rw [w64_in _ (by omega)]; omega)
      have STK := Lib.hid (fun (h : (tn B (k, r) a0 f0 (j + 1)).e ≠ 0) => show tn B (k, r) a0 f0 c = tn B (k, r) a0 f0 (j + 1) from by
        have := tn_stuck h (c - (j + 1))
        rwa [show j + 1 + (c - (j + 1)) = c by omega] at this)
      generalize lay ls z (tn B (k, r) a0 f0 j).xs = ll at *
      generalize (tn B (k, r) a0 f0 j).xs = xs at *
      generalize hja : (tn B (k, r) a0 f0 j).a = ja at *
      generalize hjf : (tn B (k, r) a0 f0 j).f = jf at *
      clear hja hjf
      have TJ := Lib.hid (TN.out ja jf W hr)
      generalize tkNum B (k, r) ja jf = t at *
      obtain ⟨x, ta, tf⟩ := t
      simp only at TJ ST FA
      have HR := Lib.hid hr
      have HGL := Lib.hid hgl
      have HG10 := Lib.hid hg10
      have HK := Lib.hid hk
      have x3 : W.cell? ⟨g3, 0, none⟩ = some (.pointer (some ⟨q, 0, none⟩)) := by rw [cell_of (hk.heap H3.out (fun h => by have := HNE.out; rcases h with h | h | h <;> omega))]; rfl
      have h15' := hk.heap H15.out (show ¬ TkS q gl g10 g15 from fun h => by have := HNE.out; rcases h with h | h | h <;> omega)
      have y0 : W.cell? ⟨g15, 0, none⟩ = some (.int .i64 k) := by rw [cell_of h15']; rfl
      have y1 : W.cell? ⟨g15, 1, none⟩ = some (.bool r) := by rw [cell_of h15']; rfl
      have H15' := Lib.hid h15'
      clear hlt hj hln hzj hr hgl hg10 hk h15' hE
      gi_wp2_with (first
        | (refine ⟨trivial, ?_⟩; gi_at_call 34; refine (CallsIn.inRound l (callsIn_wide.2 TJ.out)).mono ?_; rintro e W1 ⟨rfl, p1⟩
           have k1 := p1.2
           have R1 := Lib.hid p1.1
           have K1 := Lib.hid k1
           have u1 := cell_of (i := z + j) (k1.heap HGL.out (fun h => by have := HNE.out; have h : gl = q := h; omega))
           have u2 : W1.frozen? ⟨gl, z + j, none⟩ = false := frozen_of (k1.heap HGL.out (fun h => by have := HNE.out; have h : gl = q := h; omega))
           rw [show (ivs ll).toArray[z + j]? = some (.int .i64 (ll.getD (z + j) 0)) by simp [ivs, List.getD, HZJ.out]] at u1
           clear p1 k1))
      have hz2 := HNE.out
      have r2 := R1.out.kept ((Kept.refl (One gl) W1).setCell (p := ⟨gl, z + j, none⟩) (.inl rfl) (.int .i64 x)) (fun h => by have h : q = gl := h; omega) (fun b hb h => by have h : b = gl := h; exact (HVO.out b hb).1 h)
      have k2 : Kept (TkS q gl g10) W0 (W1.setCell ⟨gl, z + j, none⟩ (.int .i64 x)) := (HK.out.trans K1.out (fun _ h => h) (fun _ _ h => .inl h)).setCell (p := ⟨gl, z + j, none⟩) (.inl (.inr (.inl rfl))) _
      have hg2 : (W1.setCell ⟨gl, z + j, none⟩ (.int .i64 x)).heap[gl]? = some (.cells (ivs (ll.set (z + j) x)).toArray 3 (0, 0)) := by
        rw [heap_set (K1.out.heap HGL.out (fun h => by have h : gl = q := h; omega)), ← ivs_set]
        simp
      have h102 : (W1.setCell ⟨gl, z + j, none⟩ (.int .i64 x)).heap[g10]? = some (.cells #[.int .i64 0] 31 (0, 0)) := (heap_set_other (p := ⟨gl, z + j, none⟩) (show g10 ≠ gl by omega)).trans (K1.out.heap HG10.out (fun h => by have h : g10 = q := h; omega))
      have x3' : (W1.setCell ⟨gl, z + j, none⟩ (.int .i64 x)).cell? ⟨g3, 0, none⟩ = some (.pointer (some ⟨q, 0, none⟩)) := by
        rw [cell_of (k2.heap H3.out (fun h => by rcases h with h | h | h <;> omega))]; rfl
      generalize W1.setCell ⟨gl, z + j, none⟩ (.int .i64 x) = W2 at *
      have u3 : W2.cell? ⟨gl, z + j, none⟩ = some (.int .i64 x) := by
        rw [cell_of hg2]
        simp [ivs, HZJ.out]
      rw [← SN.out x] at hg2
      have HG2 := Lib.hid hg2
      have R2 := Lib.hid r2
      have K2 := Lib.hid k2
      have H102 := Lib.hid h102
      have CJ := Lib.hid (CK.out ta tf x W2.drew r2)
      have c1 : W2.drew.cell? ⟨g10, 0, none⟩ = some (.int .i64 0) := by rw [show W2.drew.cell? ⟨g10, 0, none⟩ = W2.cell? ⟨g10, 0, none⟩ from rfl, cell_of h102]; rfl
      have c2 : W2.drew.frozen? ⟨g10, 0, none⟩ = false := frozen_of (w := W2) h102
      have c3 : W2.drew.cell? ⟨g3, 0, none⟩ = some (.pointer (some ⟨q, 0, none⟩)) := x3'
      have c4 : W2.drew.cell? ⟨gl, z + j, none⟩ = some (.int .i64 x) := u3
      clear hz2 r2 k2 hg2 h102 x3' u3 u1 u2 R1 K1 HGL HR HK y0 y1 x3 TJ HG10
      generalize tkE tf x = ee at *
      refine wpIn_mono (Q := TkMid g3 g10 gl z c cap g15 j ((W2.setCell ⟨g10, 0, none⟩ (.int .i64 (ee : Int))).drew)) ?_ ?_
      · refine round_tail 5 (by kernel_rfl) (fun ⟨_, _, h⟩ => h) (by kernel_rfl) (by kernel_rfl) ?_
        simp only [List.take_succ_cons, List.take_zero, List.drop_succ_cons, List.drop_zero]
        repeat still_step
        try refine wpStill_nil ?_
        change wpList _ _ _ _ _ W2.drew
        go_wp2_with (go_at_call 35; refine CJ.out.mono ?_; rintro e w' ⟨rfl, rfl⟩)
        exact ⟨rfl, rfl, rfl, rfl, rfl, rfl, rfl, rfl, rfl⟩
      · intro e a' w' h
        cases e with
        | normal =>
          obtain ⟨tm, df⟩ := a'
          obtain ⟨rfl, hs, e3, e10, e14, e15, e73, e74, rfl⟩ := h
          simp only at hs e3 e10 e14 e15 e73 e74
          obtain ⟨f3, hf, hg⟩ := fr_open hs
          have g3' := hg _ _ e3
          have g10' := hg _ _ e10
          have g14' := hg _ _ e14
          have g15' := hg _ _ e15
          have g73' := hg _ _ e73
          have g74' := hg _ _ e74
          simp only [List.range, List.range.loop, List.map] at hf
          rw [g3', g10', g14', g15', g73', g74'] at hf
          clear g3' g10' g14' g15' g73' g74' hg hs e3 e10 e14 e15 e73 e74 c1 c2 c3 c4 CJ
          subst hf
          have hne2 := HNE.out
          have r3 := R2.out.kept ((Kept.refl (One g10) W2).setCell (p := ⟨g10, 0, none⟩) (.inl rfl) (.int .i64 (ee : Int))).drew (fun h => by have h : q = g10 := h; omega) (fun b hb h => by have h : b = g10 := h; exact (HVO.out b hb).2 h)
          have k3 : Kept (TkS q gl g10) W0 (W2.setCell ⟨g10, 0, none⟩ (.int .i64 (ee : Int))).drew := (K2.out.setCell (p := ⟨g10, 0, none⟩) (.inl (.inr (.inr rfl))) _).drew
          have hg3' : (W2.setCell ⟨g10, 0, none⟩ (.int .i64 (ee : Int))).drew.heap[gl]? = some (.cells (ivs (lay ls z (xs ++ [x]))).toArray 3 (0, 0)) := (heap_set_other (p := ⟨g10, 0, none⟩) (show gl ≠ g10 by omega)).trans HG2.out
          have h103 : (W2.setCell ⟨g10, 0, none⟩ (.int .i64 (ee : Int))).drew.heap[g10]? = some (.cells #[.int .i64 (ee : Int)] 31 (0, 0)) := heap_set H102.out
          generalize (W2.setCell ⟨g10, 0, none⟩ (.int .i64 (ee : Int))).drew = W3 at *
          have z1 : W3.cell? ⟨g10, 0, none⟩ = some (.int .i64 (ee : Int)) := by rw [cell_of h103]; rfl
          have R3 := Lib.hid r3
          have K3 := Lib.hid k3
          have HG3 := Lib.hid hg3'
          have H103 := Lib.hid h103
          clear r3 k3 hg3' h103 hne2 K2 R2 HG2 H102
          by_cases h0 : ee = 0
          · subst h0
            have t0 : (((0 : Nat) : Int) != 0) = false := rfl
            have TN1 := Lib.hid (ST.out rfl)
            clear ST FA
            gi_wp2
            rw [HW.out]
            refine ⟨⟨rfl, rfl, rfl, rfl, rfl, rfl, rfl, j + 1, HJ.out, rfl, by rw [TN1.out], by rw [TN1.out]; exact R3.out, by rw [TN1.out]; exact HG3.out, H103.out, K3.out⟩, nearer HJ.out rfl⟩
          · have t0 : ((ee : Int) != 0) = true := bne_iff_ne.2 (by omega)
            have TN1 := Lib.hid (FA.out h0)
            have TC := Lib.hid (STK.out (by rw [TN1.out]; exact h0))
            have H2 := Lib.hid (fun a' => HE2.out a' W3 (by rw [TC.out, TN1.out]; exact h0) (by rw [TC.out, TN1.out]; exact R3.out) (by rw [TC.out, TN1.out]; exact H103.out) K3.out)
            clear ST FA h0
            gi_wp2
            exact H2.out _
        | _ => exact h.elim
    · have hje : j = c := by omega
      subst hje
      have hdd : decide ((j : Int) < (j : Int)) = false := decide_eq_false (by omega)
      have H1 := Lib.hid (HE1.out · W · · hE hr hgl hg10 hk)
      clear hlt hj hr hgl hg10 hk hE
      gi_wp2
      exact H1.out _ rfl rfl

end Go.Proofs.Ytlbnjclchmnomaa
