/- Layer 15's law: short ends, and tells a bool. -/
import Derived.Test.YtlbnjclchmnomaaRCutsA
import Derived.Test.YtlbnjclchmnomaaPk24
import Derived.Test.YtlbnjclchmnomaaPk17
import Derived.Test.YtlbnjclchmnomaaPk16
namespace Go.Proofs.Ytlbnjclchmnomaa
open Go.RowKit Bx

def ShInv (g5 : Nat) (v8 : Value) (m : Nat) (w1 : World) (a : Act) (w' : World) : Prop :=
  a.defers = [] ∧ a.tmps.size = 71 ∧ a.tmps[5]? = some (.pointer (some ⟨g5, 0, none⟩)) ∧ a.tmps[8]? = some v8 ∧ ∃ i : Nat, i ≤ m ∧ a.tmps[9]? = some (.int .i64 (i : Int)) ∧ Kept Nix w1 w'

def ShInv2 (g5 : Nat) (v8 : Value) (i q : Nat) (w1 : World) (a : Act) (w' : World) : Prop :=
  a.defers = [] ∧ a.tmps.size = 71 ∧ a.tmps[5]? = some (.pointer (some ⟨g5, 0, none⟩)) ∧ a.tmps[8]? = some v8 ∧ a.tmps[9]? = some (.int .i64 (i : Int)) ∧ ∃ j : Nat, j ≤ q ∧ a.tmps[10]? = some (.int .i64 (j : Int)) ∧ Kept Nix w1 w'

set_option maxRecDepth 10000 in
set_option maxHeartbeats 4000000 in
theorem short_any (v : Value) (L : List Int) (k : Int) (wd : Bool) (o : Int) (u : Value) (ps : List (Int × Bool)) (w : World) (hv : Sl w v (ivs L)) (hw : ∀ n ∈ L, (Lit.int .i64 n).wf = true) (hp : Pts w u ps) (hl : L.length ≤ 100) (hpl : ps.length ≤ 1000) (hk : k ≤ 1000) :
    Calls Try.prog 7 #[v, .int .i64 k, .agg #[.bool wd, .int .i64 o, u]] w fun e w' => (∃ b, e = .returned (.bool b)) ∧ Kept Nix w w' := by
  obtain ⟨lo, lc, rfl, -⟩ := hv.ints
  obtain ⟨uo, uc, rfl, hp⟩ := hp.len
  have HV := Lib.hid hv
  have HP := Lib.hid hp
  have HW := Lib.hid hw
  have CU := Lib.hid (fun w' => rcuts_all L.length k o w' (by omega) (by omega))
  unfold CutsPost at CU
  have HB := Lib.hid (heap_alloc_new w (.cells #[.bool wd, .int .i64 o, .slice uo ps.length uc] 25))
  have K1 := Lib.hid ((Kept.refl Nix w).alloc (.cells #[.bool wd, .int .i64 o, .slice uo ps.length uc] 25))
  have SP := Lib.hid (fun vl vc w' h1 h2 => rsplit_any L (ctI L.length k o) vl vc w' h1 h2 (ctI_sum_le _ _ _) (by omega) (ctI_length_le _ _ _))
  have HLQ := Lib.hid (show ∀ i, i < (ctI L.length k o).length → (((pcz L (ctI L.length k o)).getD i []).length ≤ 100 ∧ ∀ n ∈ (pcz L (ctI L.length k o)).getD i [], n ∈ L) from fun i hi => by
    rw [pcz_get L _ i hi]
    refine ⟨by rw [List.length_take, List.length_drop]; omega, fun n hn => List.mem_of_mem_drop (List.mem_of_mem_take hn)⟩)
  have HCL := Lib.hid (pcz_length L (ctI L.length k o))
  have HPL := Lib.hid hpl
  clear hv hp hw hl hk hpl
  generalize pcz L (ctI L.length k o) = P at *
  generalize ctI L.length k o = C at *
  go_enter Try.func7, Try.ntmps7
  go_upto_region 1 with fail
  generalize w.alloc (.cells #[.bool wd, .int .i64 o, .slice uo ps.length uc] 25) = w1 at *
  obtain ⟨x0, x1, x2⟩ := cells_three HB.out
  go_upto_region 2 with (go_at_call 20; refine (CU.out _).mono ?_; rintro e w2 ⟨cv, rfl, o2, k2⟩; obtain ⟨co, cc, rfl, -⟩ := owns_shape o2; have O2 := Lib.hid o2; have K2 := Lib.hid k2; clear o2 k2)
  clear x0 x1 x2
  obtain ⟨x0, x1, x2⟩ := cells_three (K2.out.heap HB.out id)
  by_cases hcl : C.length = ps.length
  · have t1 : ((C.length : Int) != (ps.length : Int)) = false := by simp [hcl]
    have HCP := Lib.hid hcl
    have K02 := Lib.hid (nix_trans K1.out K2.out)
    have S2 := Lib.hid (SP.out _ _ w2 (HV.out.nix K02.out) (sl_of_owns O2.out))
    clear hcl SP CU
    go_upto_region 5 with (go_at_call 21; refine S2.out.mono ?_; rintro e w3 ⟨v8, rfl, ch, k3⟩; have K3 := Lib.hid (nix_trans K2.out k3); have CH := Lib.hid ch; clear ch k3 S2)
    obtain ⟨ro, rc, rfl, -⟩ := CH.out.open
    rw [HCL.out] at CH ⊢
    clear x0 x1 x2 t1
    go_wp2
    refine wp_loop (ShInv w.heap.size (.slice ro C.length rc) C.length w3) (fun a _ => C.length - (intOf (a.tmps.getD 9 undef)).toNat) ?_ ?_
    · exact ⟨rfl, rfl, rfl, rfl, 0, Nat.zero_le _, rfl, Kept.refl _ _⟩
    · rintro ⟨tm, df⟩ w4 ⟨rfl, hs, e5, e8, i, hi, e9, hk⟩
      simp only at hs e5 e8 e9
      obtain ⟨f, hf, hg⟩ := fr_open hs
      have g5 := hg _ _ e5
      have g8 := hg _ _ e8
      have g9 := hg _ _ e9
      simp only [List.range, List.range.loop, List.map] at hf
      rw [g5, g8, g9] at hf
      clear g5 g8 g9 hg hs e5 e8 e9
      subst hf
      have HK := Lib.hid hk
      clear hk
      by_cases hlt : i < C.length
      · have hdd : decide (i < C.length) = true := decide_eq_true hlt
        obtain ⟨q1, q2⟩ := HLQ.out i hlt
        obtain ⟨b2, o2, rfl, ro2, rc2, hc2⟩ := CH.out.row i (by rw [HCL.out]; exact hlt)
        obtain ⟨b1, o1, rfl, hc1⟩ := HP.out.at i (by have := HCP.out; omega)
        have HI := Lib.hid hlt
        have HIP := Lib.hid (show (i : Int) < (C.length : Int) ∧ (i : Int) < (ps.length : Int) by have := HCP.out; omega)
        have HWI := Lib.hid (show wrap64 ((i : Int) + 1) = ((i + 1 : Nat) : Int) by have := HPL.out; have := HCP.out; rw [w64_in _ (by omega)]; omega)
        have HQ := Lib.hid (And.intro q1 q2)
        have HC1 := Lib.hid hc1
        have HC2 := Lib.hid hc2
        clear hlt hi q1 q2 hc1 hc2
        generalize P.getD i [] = Q at *
        generalize ps.getD i (0, false) = kr at *
        obtain ⟨kk1, rr1⟩ := kr
        simp only at HC1
        obtain ⟨q, hq⟩ : ∃ q, Q.length = q := ⟨_, rfl⟩
        have HQL := Lib.hid hq
        rw [hq] at HC2
        clear hq
        go_wp2
        refine wp_loop (ShInv2 w.heap.size (.slice (some ⟨b2, o2, none⟩) C.length rc) i q w3) (fun a _ => q - (intOf (a.tmps.getD 10 undef)).toNat) ?_ ?_
        · exact ⟨rfl, rfl, rfl, rfl, rfl, 0, Nat.zero_le _, rfl, HK.out⟩
        · rintro ⟨tm, df⟩ w5 ⟨rfl, hs, e5, e8, e9, j, hj, e10, hk⟩
          simp only at hs e5 e8 e9 e10
          obtain ⟨f, hf, hg⟩ := fr_open hs
          have g5 := hg _ _ e5
          have g8 := hg _ _ e8
          have g9 := hg _ _ e9
          have g10 := hg _ _ e10
          simp only [List.range, List.range.loop, List.map] at hf
          rw [g5, g8, g9, g10] at hf
          clear g5 g8 g9 g10 hg hs e5 e8 e9 e10
          subst hf
          have HK5 := Lib.hid hk
          clear hk
          obtain ⟨z1, z2⟩ := HC2.out w5 HK5.out
          have hip := HIP.out
          by_cases hlt : j < q
          · have hdd2 : decide (j < q) = true := decide_eq_true hlt
            obtain ⟨b3, o3, rfl⟩ := z2.where (by omega)
            have z3 := z2.cellInt (i := j) (by rw [HQL.out]; exact hlt)
            obtain ⟨x0, x1, x2⟩ := cells_three ((nix_trans K3.out HK5.out).heap HB.out id)
            obtain ⟨y1, y2⟩ := HC1.out w5 (nix_trans K1.out (nix_trans K3.out HK5.out))
            have hwf := bounds_i64 (HW.out (Q.getD j 0) (HQ.out.2 _ (show Q.getD j 0 ∈ Q by have h : j < Q.length := by rw [HQL.out]; exact hlt
                                                                                            simp [List.getD, h])))
            have HH := Lib.hid (fun wx => (refHigh_any (Q.getD j 0) kk1 wx hwf.1 hwf.2).mono fun e w' (h : _ ∧ _) => And.intro h.1 h.2.symm)
            have hj1 : (j : Int) < (q : Int) := by omega
            have HWJ := Lib.hid (show wrap64 ((j : Int) + 1) = ((j + 1 : Nat) : Int) by have := HQ.out.1; have := HQL.out; rw [w64_in _ (by omega)]; omega)
            have HJ := Lib.hid hlt
            obtain ⟨hip1, hip2⟩ := hip
            clear hlt hj hwf z2 x0 x1
            generalize Q.getD j 0 = nn at *
            generalize fd nn / 2 ^ kk kk1 = H at *
            go_wp2
            go_quiet ((go_at_call 22; exact Calls.quiet_of_same (HH.out _)))
            have x2' : (w5.drewN nq).cell? ⟨w.heap.size, 2, none⟩ = some (.slice (some ⟨b1, o1, none⟩) ps.length uc) := x2
            have y2' : (w5.drewN nq).cell? ⟨b1, o1 + i * 2 + 1, none⟩ = some (.bool rr1) := y2
            have K6 := Lib.hid (HK5.out.drewN nq)
            clear x2 y1 y2 z1 z3
            generalize w5.drewN nq = w6 at *
            obtain ⟨b1', hb1⟩ : ∃ b, decide ((300 : Int) < (H : Int)) = b := ⟨_, rfl⟩
            obtain ⟨b2', hb2⟩ : ∃ b, decide ((H : Int) ≤ 65535) = b := ⟨_, rfl⟩
            have hb1n : decide (300 < H) = b1' := by rw [← hb1]; exact decide_eq_decide.2 (by omega)
            have hb2n : decide (H ≤ 65535) = b2' := by rw [← hb2]; exact decide_eq_decide.2 (by omega)
            cases rr1 <;> cases b1' <;> cases b2'
            all_goals
              go_wp2
              first
                | (go_ret; exact ⟨⟨_, rfl⟩, nix_trans K1.out (nix_trans K3.out K6.out)⟩)
                | (rw [HWJ.out]; exact ⟨⟨rfl, rfl, rfl, rfl, rfl, j + 1, HJ.out, rfl, K6.out⟩, nearer HJ.out rfl⟩)
          · have hje : j = q := by omega
            subst hje
            have hdd2 : decide (j < j) = false := decide_eq_false hlt
            obtain ⟨hip1, hip2⟩ := hip
            clear hlt hj z2
            go_wp2
            rw [HWI.out]
            exact ⟨⟨rfl, rfl, rfl, rfl, i + 1, HI.out, rfl, HK5.out⟩, nearer HI.out rfl⟩
      · have hie : i = C.length := by omega
        subst hie
        have hdd : decide (C.length < C.length) = false := decide_eq_false hlt
        clear hlt hi
        go_wp2
        go_ret
        exact ⟨⟨_, rfl⟩, nix_trans K1.out (nix_trans K3.out HK.out)⟩
  · have t1 : ((C.length : Int) != (ps.length : Int)) = true := bne_iff_ne.2 (by omega)
    have K02 := Lib.hid (nix_trans K1.out K2.out)
    clear hcl
    go_wp2
    go_ret
    exact ⟨⟨_, rfl⟩, K02.out⟩

end Go.Proofs.Ytlbnjclchmnomaa
