/- The reference of layer 6: Bytes. -/
import Derived.Test.YtpiongdkfebchaaRefSamp
import Derived.Test.YtpiongdkfebchaaUnbMath
import Derived.Test.YtpiongdkfebchaaCut
namespace Go.Proofs.Ytpiongdkfebchaa
open Go.RowKit Bx

def RBOut (p : Nat) (L : List (List Int)) (d : Int) (w0 : World) (a : Act) (w' : World) : Prop :=
  a.defers = [] ∧ a.tmps.size = 34 ∧ a.tmps[1]? = some (.pointer (some ⟨p, 0, none⟩)) ∧ ∃ k : Nat, k ≤ manyN L ∧ a.tmps[4]? = some (.int .i64 (k : Int)) ∧ Kept Nix w0 w' ∧ ∃ u, a.tmps[3]? = some u ∧ w'.ownsRow w0.heap.size 5 1 u ((List.range (k * L.length)).flatMap (fun x => sb (smp L x) (eachN d))).length (u8s ((List.range (k * L.length)).flatMap (fun x => sb (smp L x) (eachN d))))

def RBIn (p : Nat) (L : List (List Int)) (d : Int) (k : Nat) (w0 : World) (a : Act) (w' : World) : Prop :=
  a.defers = [] ∧ a.tmps.size = 34 ∧ a.tmps[1]? = some (.pointer (some ⟨p, 0, none⟩)) ∧ a.tmps[4]? = some (.int .i64 (k : Int)) ∧ ∃ i : Nat, i ≤ L.length ∧ a.tmps[5]? = some (.int .i64 (i : Int)) ∧ Kept Nix w0 w' ∧ ∃ u, a.tmps[3]? = some u ∧ w'.ownsRow w0.heap.size 5 1 u ((List.range (k * L.length + i)).flatMap (fun x => sb (smp L x) (eachN d))).length (u8s ((List.range (k * L.length + i)).flatMap (fun x => sb (smp L x) (eachN d))))

theorem in_range {n d : Int} (h1 : 4 ≤ d) (h2 : d ≤ 32) (h : inD n d = true) : -(256 : Int) ^ (eachN d) ≤ n ∧ n < 256 ^ (eachN d) := by
  simp only [inD, Bool.and_eq_true, decide_eq_true_eq] at h
  obtain ⟨⟨⟨_, _⟩, h3⟩, h4⟩ := h
  have hv := eachN_val d h1 h2
  have hle : d.toNat - 1 ≤ 8 * eachN d := by omega
  have hp : (2 : Int) ^ (d.toNat - 1) ≤ 2 ^ (8 * eachN d) := by
    have := Nat.pow_le_pow_right (show 0 < 2 by omega) hle
    exact_mod_cast this
  rw [pow_256]
  omega

theorem flat_step (L : List (List Int)) (d : Int) (n : Nat) : (List.range (n + 1)).flatMap (fun x => sb (smp L x) (eachN d)) = (List.range n).flatMap (fun x => sb (smp L x) (eachN d)) ++ sb (smp L n) (eachN d) := by
  rw [List.range_succ, List.flatMap_append]
  simp

set_option maxRecDepth 10000 in
set_option maxHeartbeats 2000000 in
theorem rbytes_any (r d : Int) (v : Value) (L : List (List Int)) (w : World) (h : Chs w v L) (hc : chkE r d L = 0) (hM : manyN L ≤ 50) :
    Calls Try.prog 24 #[.agg #[.int .i64 r, .int .i64 d, v]] w fun e w' => ∃ u, e = .returned u ∧ Sl w' u (u8s (bytesOf L d)) ∧ Kept Nix w w' := by
  obtain ⟨hl1, hl8, hd4, hd32⟩ := kind_parts (chk_kind hc)
  have k1 : Kept Nix w (w.alloc (.cells #[.int .i64 r, .int .i64 d, v] 24)) := (Kept.refl _ w).alloc _
  have hb1 : (w.alloc (.cells #[.int .i64 r, .int .i64 d, v] 24)).heap[w.heap.size]? = some (.cells #[.int .i64 r, .int .i64 d, v] 24 (0, 0)) := heap_alloc_new w _
  have HCH := Lib.hid (h.nix k1)
  have HC := Lib.hid hc
  have HMM := Lib.hid hM
  have K1 := Lib.hid k1
  have HB1 := Lib.hid hb1
  have HD := Lib.hid (And.intro hd4 hd32)
  obtain ⟨ao, cap, rfl, _⟩ := h.open
  clear h hc k1 hb1 hd4 hd32 hM
  go_enter Try.func24, Try.ntmps24
  go_wp2
  generalize w.alloc (.cells #[.int .i64 r, .int .i64 d, .slice ao L.length cap] 24) = w0 at *
  refine wp_loop (RBOut w.heap.size L d w0) (fun a _ => manyN L - (intOf (a.tmps.getD 4 undef)).toNat) ?_ ?_
  · exact ⟨rfl, rfl, rfl, 0, Nat.zero_le _, rfl, Kept.refl _ _, _, rfl, by rw [Nat.zero_mul]; exact World.ownsRow_nil _ _ _ _⟩
  · rintro ⟨tm, df⟩ w1 ⟨rfl, hs, e1, k, hk, e4, hkp, u, e3, hou⟩
    simp only at hs e1 e4 e3
    obtain ⟨f, hf, hg⟩ := fr_open hs
    have g1 := hg _ _ e1
    have g4 := hg _ _ e4
    have g3 := hg _ _ e3
    simp only [List.range, List.range.loop, List.map] at hf
    rw [g1, g4, g3] at hf
    clear g1 g4 g3 hg hs e1 e4 e3
    subst hf
    have HKP := Lib.hid hkp
    have HOU := Lib.hid hou
    have b1 := hkp.heap HB1.out id
    have y0 : w1.cell? ⟨w.heap.size, 0, none⟩ = some (.int .i64 r) := by rw [cell_of b1]; rfl
    have y1 : w1.cell? ⟨w.heap.size, 1, none⟩ = some (.int .i64 d) := by rw [cell_of b1]; rfl
    have y2 : w1.cell? ⟨w.heap.size, 2, none⟩ = some (.slice ao L.length cap) := by rw [cell_of b1]; rfl
    have RM := rmany_any r d _ L w1 (HCH.out.nix hkp)
    have hm50 := HMM.out
    by_cases hlt : k < manyN L
    · have hd : decide (k < manyN L) = true := decide_eq_true hlt
      have HLT := Lib.hid hlt
      clear hk hkp hou b1 hlt
      generalize hmm : manyN L = mm at *
      have HMN := Lib.hid hmm
      clear hmm
      go_wp2_with (go_at_call 14; refine RM.mono ?_; rintro e w2 ⟨rfl, k2⟩; have K2 := Lib.hid (nix_trans HKP.out k2); have HOU2 := Lib.hid (k2.owns HOU.out (fun _ _ h => h)); clear k2 RM)
      clear y0 y1 y2
      refine wp_loop (RBIn w.heap.size L d k w0) (fun a _ => L.length - (intOf (a.tmps.getD 5 undef)).toNat) ?_ ?_
      · exact ⟨rfl, rfl, rfl, rfl, 0, Nat.zero_le _, rfl, K2.out, u, rfl, HOU2.out⟩
      · clear HOU2 K2 HOU HKP
        rintro ⟨tm, df⟩ w3 ⟨rfl, hs, e1, e4, i, hi, e5, hkp, u3, e3, hou⟩
        simp only at hs e1 e4 e5 e3
        obtain ⟨f3, hf, hg⟩ := fr_open hs
        have g1 := hg _ _ e1
        have g4 := hg _ _ e4
        have g5 := hg _ _ e5
        have g3 := hg _ _ e3
        simp only [List.range, List.range.loop, List.map] at hf
        rw [g1, g4, g5, g3] at hf
        clear g1 g4 g5 g3 hg hs e1 e4 e5 e3
        subst hf
        have HKP := Lib.hid hkp
        have HOU := Lib.hid hou
        have b1 := hkp.heap HB1.out id
        have y1 : w3.cell? ⟨w.heap.size, 1, none⟩ = some (.int .i64 d) := by rw [cell_of b1]; rfl
        have y2 : w3.cell? ⟨w.heap.size, 2, none⟩ = some (.slice ao L.length cap) := by rw [cell_of b1]; rfl
        by_cases hli : i < L.length
        · have hd2 : decide (i < L.length) = true := decide_eq_true hli
          have hx : k * L.length + i < manyN L * L.length := place_lt (by rw [HMN.out]; exact HLT.out) hli
          obtain ⟨b, off, b', off', cc, rfl, hcl, hil, hx3', hx4'⟩ := smp_cells HCH.out hl1 (chk_even HC.out) hx
          rw [place_mod hli, HMN.out] at hx3'
          rw [place_div hli] at hx4'
          have hin := smp_in HC.out hx
          have hrg := in_range HD.out.1 HD.out.2 hin
          have hk1 : (k : Int) < (mm : Int) := by have := HLT.out; omega
          have hi1 : (i : Int) < (L.length : Int) := by omega
          have z1 : w0.cell? ⟨w.heap.size, 1, none⟩ = some (.int .i64 d) := by rw [cell_of HB1.out]; rfl
          have z2 : w0.cell? ⟨w.heap.size, 2, none⟩ = some (.slice (some ⟨b, off, none⟩) L.length cap) := by rw [cell_of HB1.out]; rfl
          have CL := Lib.hid (show ∀ w', Kept Nix w0 w' → w'.cell? ⟨w.heap.size, 1, none⟩ = some (.int .i64 d) ∧ w'.cell? ⟨w.heap.size, 2, none⟩ = some (.slice (some ⟨b, off, none⟩) L.length cap) ∧ w'.cell? ⟨b, off + i, none⟩ = some (.slice (some ⟨b', off', none⟩) mm cc) ∧ w'.cell? ⟨b', off' + k, none⟩ = some (.int .i64 (smp L (k * L.length + i))) from
            fun w' hk' => ⟨(World.cell?_of_block (hk'.block _ (World.block_lt_of_cell? w0 _ z1) id)).trans z1, (World.cell?_of_block (hk'.block _ (World.block_lt_of_cell? w0 _ z2) id)).trans z2, (World.cell?_of_block (hk'.block _ (World.block_lt_of_cell? w0 _ hx3') id)).trans hx3', (World.cell?_of_block (hk'.block _ (World.block_lt_of_cell? w0 _ hx4') id)).trans hx4'⟩)
          have hfs := flat_step L d (k * L.length + i)
          have hlf : ((List.range (k * L.length + i)).flatMap (fun x => sb (smp L x) (eachN d))).length ≤ 1600 := by
            rw [flat_len _ _ (eachN d) (fun _ => sb_length _ _), List.length_range]
            have h1 : k * L.length + i ≤ 400 := by
              have h2 : manyN L * L.length ≤ 50 * 8 := Nat.mul_le_mul (by rw [HMN.out]; exact hm50) hl8
              omega
            have h3 := Nat.mul_le_mul h1 (eachN_hi d)
            omega
          generalize smp L (k * L.length + i) = sm at *
          generalize hF : (List.range (k * L.length + i)).flatMap (fun x => sb (smp L x) (eachN d)) = F at *
          have hb1 : F.length + eachN d ≤ maxLen := by have := eachN_hi d; unfold maxLen; omega
          have hb2 : (F.length + eachN d) * 1 ≤ 140737488355328 := by have := eachN_hi d; omega
          have RS := Lib.hid (rsample_any sm (eachN d) hrg.1 hrg.2 (eachN_hi d) w3.drew)
          have HBA := Lib.hid hb1
          have HBB := Lib.hid hb2
          have HFS := Lib.hid hfs
          have HLI := Lib.hid hli
          have hcl := CL.out w3 hkp
          have hsz : w0.heap.size ≤ w3.heap.size := hkp.size
          clear hrg hin hx hcl hb1 hb2 hfs hlf hli hi hkp hou b1 z1 z2 hx3' hx4' hil y1 y2
          have hcl := CL.out w3 HKP.out
          obtain ⟨hz1, hz2, hz3, hz4⟩ := hcl
          go_wp2_with fail
          go_region_held3 (fun w' => w'.cell? ⟨w.heap.size, 1, none⟩ = some (.int .i64 d) ∧ w'.cell? ⟨w.heap.size, 2, none⟩ = some (.slice (some ⟨b, off, none⟩) L.length cap) ∧ w'.cell? ⟨b, off + i, none⟩ = some (.slice (some ⟨b', off', none⟩) mm cc) ∧ w'.cell? ⟨b', off' + k, none⟩ = some (.int .i64 sm))
            (first | go_keep | (exact HQ5.out) | (exact HQ6.out))
            (first
              | (go_at_call 18; refine (reach_any _ _).mono ?_; rintro e wz ⟨rfl, rfl⟩)
              | (go_at_call 36; refine RS.out.mono ?_; rintro e w5 ⟨v5, rfl, o5, k5⟩; obtain ⟨ao5, cap5, rfl, _, _⟩ := owns_shape o5; have hk5 : Kept Nix w0 w5 := nix_trans HKP.out.drew k5; have HQ5 := Lib.hid (CL.out _ hk5); have S5 := Lib.hid (src_u8s (sl_of_owns o5)); have K5 := Lib.hid hk5; have O35 := Lib.hid (k5.owns (w := w3.drew) HOU.out (fun _ _ h => h)); clear k5 o5 hk5)
              | (refine step_app w5 rfl (.tmp 19) (.tmp 31) 33 rfl w0.heap.size 5 (.int .u8 0) 1 1 Try.underlying33 info_u8 rfl (by decide) u3 F.length (u8s F) rfl O35.out ao5 _ cap5 _ rfl S5.out HBA.out HBB.out K5.out.size ?_; intro v6 w6 o6 g6 n6; have k6 : Kept Nix w0 w6 := K5.out.grown g6 (fun kk hkk => .inr (O35.out.lt kk hkk).1); have HQ6 := Lib.hid (CL.out _ k6); have K6 := Lib.hid k6; have O6 := Lib.hid o6; clear k6 o6 g6 n6))
          all_goals
            have hli' : i < L.length := HLI.out
            go_wp2_with fail
            refine ⟨⟨rfl, rfl, rfl, rfl, i + 1, HLI.out, by simp, K6.out, v6, rfl, ?_⟩, ?_⟩
            · rw [← Nat.add_assoc, HFS.out, List.length_append, sb_length, u8s_append]
              exact O6.out
            · simp [intOf]
              omega
        · have hd2 : decide (i < L.length) = false := decide_eq_false hli
          have hie : i = L.length := by omega
          subst hie
          have hk1 : k < mm := HLT.out
          clear hli hi hkp hou b1
          go_wp2
          refine ⟨⟨rfl, rfl, rfl, k + 1, by rw [HMN.out]; exact HLT.out, by simp, HKP.out, u3, rfl, ?_⟩, ?_⟩
          · rw [Nat.add_mul, Nat.one_mul]
            exact HOU.out
          · simp [intOf]
            omega
    · have hd : decide (k < manyN L) = false := decide_eq_false hlt
      have hke : k = manyN L := by omega
      subst hke
      clear hk hkp hou b1 hlt
      generalize hmm : manyN L = mm at *
      have HMN := Lib.hid hmm
      clear hmm
      go_wp2_with (go_at_call 14; refine RM.mono ?_; rintro e w2 ⟨rfl, k2⟩; have K2 := Lib.hid (nix_trans HKP.out k2); have HOU2 := Lib.hid (k2.owns HOU.out (fun _ _ h => h)); clear k2 RM)
      go_ret
      refine ⟨_, rfl, ?_, nix_trans K1.out K2.out⟩
      have h := sl_of_owns HOU2.out
      unfold bytesOf
      rw [HMN.out]
      exact h

end Go.Proofs.Ytpiongdkfebchaa
