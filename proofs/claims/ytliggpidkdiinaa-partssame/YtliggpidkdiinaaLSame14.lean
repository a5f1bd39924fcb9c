/- The walk of PartsSame. -/
import Derived.Test.YtliggpidkdiinaaAwake14
import Derived.Test.YtliggpidkdiinaaPartZero
import Derived.Test.YtliggpidkdiinaaRPtSame
namespace Go.Proofs.Ytliggpidkdiinaa
open Go.RowKit Bx

theorem same_num {a : Int} (ha : (Lit.int .u8 a).wf = true) : ∃ M n : Nat, 0 < n ∧ n ≤ 80 ∧ a.tmod 80 = (M : Int) ∧ wrap64 (M : Int) = (M : Int) ∧ wrap64 (1 + (M : Int)) = (n : Int) ∧ 1 + (M : Int) = (n : Int) ∧ wrap64 (10 + (n : Int)) = ((10 + n : Nat) : Int) := by
  obtain ⟨p, rfl, hp⟩ := nat_u8 ha
  refine ⟨p % 80, 1 + p % 80, by omega, by omega, ?_, small_i _ (by omega), ?_, by omega, ?_⟩
  · rw [Int.tmod_eq_emod_of_nonneg (by omega)]; omega
  · rw [w64_in _ (by omega)]; omega
  · rw [w64_in _ (by omega)]; omega

theorem one_pts {w : World} {g : Nat} {k : Int} {r : Bool} (h : w.heap[g]? = some (.cells #[.int .i64 k, .bool r] 39 (0, 0))) : Pts w (.slice (some ⟨g, 0, none⟩) 1 1) [(k, r)] := by
  obtain ⟨c0, c1⟩ := cells_part h
  refine ⟨_, 1, rfl, Nat.le_refl _, by decide, fun _ => ⟨g, 0, rfl, (Array.getElem?_eq_some_iff.1 h).1, fun j hj => ?_⟩⟩
  have hj0 : j = 0 := by simpa using hj
  subst hj0
  exact ⟨c0, c1⟩

/-- The plan that is wanted, in memory; and with Raw. -/
theorem same_q (w4 : World) : ∀ w5, w5 = (w4.alloc (.cells #[.int .i64 0, .bool false] 39)).alloc (.cells #[.bool false, .int .i64 0, .slice (some ⟨w4.heap.size, 0, none⟩) 1 1] 26) →
    (Kept Nix w4 w5 ∧ w5.heap[w4.heap.size + 1]? = some (.cells #[.bool false, .int .i64 0, .slice (some ⟨w4.heap.size, 0, none⟩) 1 1] 26 (0, 0)) ∧ w5.heap[w4.heap.size]? = some (.cells #[.int .i64 0, .bool false] 39 (0, 0))) ∧
    ∀ w6, w6 = w5.setCell ⟨w4.heap.size, 1, none⟩ (.bool true) → Kept Nix w4 w6 ∧ w6.heap[w4.heap.size + 1]? = some (.cells #[.bool false, .int .i64 0, .slice (some ⟨w4.heap.size, 0, none⟩) 1 1] 26 (0, 0)) ∧ Pts w6 (.slice (some ⟨w4.heap.size, 0, none⟩) 1 1) [(0, true)] := by
  intro w5 h5
  obtain ⟨h1, h2, h3⟩ := two_new w4 _ _ _ _ w5 h5
  refine ⟨⟨h3, h2, h1⟩, ?_⟩
  rintro w6 rfl
  refine ⟨kept_set_new h3 (Nat.le_refl _) _, (show Kept (One w4.heap.size) w5 (w5.setCell ⟨w4.heap.size, 1, none⟩ (.bool true)) from by have h := Kept.refl (One w4.heap.size) w5; exact h.setCell (.inl (show One w4.heap.size (Addr.block ⟨w4.heap.size, 1, none⟩) from rfl)) _).heap h2 (by show ¬ w4.heap.size + 1 = w4.heap.size; omega), one_pts ?_⟩
  rw [heap_set h1]
  rfl

set_option maxRecDepth 10000 in
set_option maxHeartbeats 4000000 in
theorem walk_PartsSame (w : World) (many : Int) (hmany : (Lit.int .u8 many).wf = true) (order : Int) (ho : (Lit.int .u8 order).wf = true) (most : Int) (hm : (Lit.int .u8 most).wf = true) (wide : Bool) :
    Calls Try.prog 7 #[.int .u8 many, .int .u8 order, .int .u8 most, .bool wide] w fun e w' => e = .returned (.bool true) ∧ Kept Nix w w' := by
  obtain ⟨K, J, h1, h2, r1, r2, r3, r4⟩ := law_mods ho hm
  obtain ⟨M, n, h3, h4, r5, r6, r7, -, r9⟩ := same_num hmany
  have HA := Lib.hid (awake_any w)
  have R9 := Lib.hid r9
  clear r9
  have hmk := make_int n (Nat.le_trans h4 (by decide))
  have PB := Lib.hid (fun w' => pbest_any _ (zrs n) (K : Int) (J : Int) wide (w'.alloc (.cells (ivs (List.replicate n 0)).toArray 3)) (sl_lit w' (zrs n) n (by simp [zrs]) (Nat.le_trans h4 (by decide))) (by rw [show (zrs n).length = n by simp [zrs]]; exact Nat.le_trans h4 (by decide)))
  unfold PBPost at PB
  obtain ⟨q1, q2, q3, q4, q5⟩ := zero_nums (n := n) h1 h2 h3 wide
  rw [q1, q2, q3, q4, q5] at PB
  obtain ⟨B, hB⟩ : ∃ B, 10 + (if 5 < n then 5 else n) = B := ⟨_, rfl⟩
  rw [hB] at PB
  have HB := Lib.hid hB
  have HK := Lib.hid (And.intro h3 h4)
  clear ho hm hmany h1 h2 h3 h4 q1 q2 q3 q4 q5 hB
  go_enter Try.func7, Try.ntmps7
  go_upto_region 2 with (go_at_call 8; refine HA.out.mono ?_; rintro e w1 ⟨rfl, k1⟩; have K1 := Lib.hid k1; clear k1)
  clear HA
  have P1 := Lib.hid (PB.out w1)
  have K2 := Lib.hid (nix_trans K1.out ((Kept.refl Nix w1).alloc (.cells (ivs (List.replicate n 0)).toArray 3)))
  clear PB
  go_upto_region 3 with fail
  rw [r6, r7]
  clear r5 r6 r7
  go_upto_region 4 with (go_at_call 9; refine P1.out.mono ?_; rintro e w3 ⟨u1, rfl, o1, k3⟩; have o1 : w3.ownsRow _ 39 2 u1 1 _ := o1; have T1 := Lib.hid (pts_of_owns (ps := [(0, decide (5 < n))]) o1); obtain ⟨b1, d1, rfl, -⟩ := owns_pos o1 (by decide); have K3 := Lib.hid (nix_trans K2.out k3); clear k3 o1 P1)
  have H4 := Lib.hid (heap_alloc_new w3 (.cells #[.bool false, .int .i64 0, .slice (some ⟨b1, 0, none⟩) 1 d1] 26))
  have K34 := Lib.hid ((Kept.refl Nix w3).alloc (.cells #[.bool false, .int .i64 0, .slice (some ⟨b1, 0, none⟩) 1 d1] 26))
  generalize w3.alloc (.cells #[.bool false, .int .i64 0, .slice (some ⟨b1, 0, none⟩) 1 d1] 26) = w4 at *
  generalize w3.heap.size = g4 at *
  have SQ := Lib.hid (same_q w4 _ rfl)
  go_upto_region 5 with fail
  generalize (w4.alloc (.cells #[.int .i64 0, .bool false] 39)).alloc (.cells #[.bool false, .int .i64 0, .slice (some ⟨w4.heap.size, 0, none⟩) 1 1] 26) = w5 at *
  obtain ⟨s1, s2⟩ := SQ.out
  have S1 := Lib.hid s1
  have S2 := Lib.hid (s2 _ rfl)
  clear s1 s2 SQ
  generalize hga : w4.heap.size = ga at *
  generalize ga + 1 = gb at *
  clear hga
  by_cases h5 : 5 < n
  · have t1 : decide ((5 : Int) < (n : Int)) = true := decide_eq_true (by omega)
    rw [decide_eq_true h5] at T1
    have t2 : ((B : Int) == 15) = true := by
      have h := HB.out
      rw [if_pos h5] at h
      rw [← h]; rfl
    clear h5
    obtain ⟨y0, y1, y2⟩ := cells_three S1.out.2.1
    obtain ⟨z0, z1⟩ := cells_part S1.out.2.2
    have z2 : w5.frozen? ⟨ga, 1, none⟩ = false := frozen_of S1.out.2.2
    go_upto_region 9 with fail
    clear y0 y1 y2 z0 z1 z2
    generalize w5.setCell ⟨ga, 1, none⟩ (.bool true) = w6 at *
    obtain ⟨x0, x1, x2⟩ := cells_three (S2.out.1.heap H4.out id)
    obtain ⟨y0, y1, y2⟩ := cells_three S2.out.2.1
    have RS := Lib.hid (rpsame_eq false 0 _ _ _ w6 (T1.out.nix (nix_trans K34.out S2.out.1)) S2.out.2.2)
    have K6 := Lib.hid (nix_trans K3.out (nix_trans K34.out S2.out.1))
    clear S1 S2 K34 K3 H4
    go_wp2_with (go_at_call 11; refine RS.out.mono ?_; rintro e w7 ⟨rfl, k7⟩; have K7 := Lib.hid k7; clear k7 RS)
    go_ret
    exact ⟨rfl, nix_trans K6.out K7.out⟩
  · have t1 : decide ((5 : Int) < (n : Int)) = false := decide_eq_false (by omega)
    rw [decide_eq_false h5] at T1
    have t2 : ((B : Int) == (B : Int)) = true := by simp
    have r9 : wrap64 (10 + (n : Int)) = (B : Int) := by
      have h := HB.out
      rw [if_neg h5] at h
      rw [R9.out, h]
    clear h5
    obtain ⟨x0, x1, x2⟩ := cells_three (S1.out.1.heap H4.out id)
    obtain ⟨y0, y1, y2⟩ := cells_three S1.out.2.1
    have RS := Lib.hid (rpsame_eq false 0 _ _ _ w5 (T1.out.nix (nix_trans K34.out S1.out.1)) (one_pts S1.out.2.2))
    have K6 := Lib.hid (nix_trans K3.out (nix_trans K34.out S1.out.1))
    clear S1 S2 K34 K3 H4
    go_wp2_with (go_at_call 11; refine RS.out.mono ?_; rintro e w7 ⟨rfl, k7⟩; have K7 := Lib.hid k7; clear k7 RS)
    go_ret
    exact ⟨rfl, nix_trans K6.out K7.out⟩

end Go.Proofs.Ytliggpidkdiinaa
