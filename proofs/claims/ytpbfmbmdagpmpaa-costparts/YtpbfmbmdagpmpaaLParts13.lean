/- The walk of CostParts. -/
import Derived.Test.YtpbfmbmdagpmpaaAwake13
import Derived.Test.YtpbfmbmdagpmpaaCostPerm
import Derived.Test.YtpbfmbmdagpmpaaArgs
namespace Go.Proofs.Ytpbfmbmdagpmpaa
open Go.RowKit Bx

theorem parts_nums {a c : Int} (ha : (Lit.int .u8 a).wf = true) (hc : (Lit.int .u8 c).wf = true) : ∃ (m r : Nat) (s t : Int), m ≤ 30 ∧ a.tmod 31 = (m : Int) ∧ wrap64 (m : Int) = (m : Int) ∧ c.tmod 9 = (r : Int) ∧ wrap64 (r : Int) = (r : Int) ∧ wrap64 ((m : Int) + (r : Int)) = s ∧ (if s < 30 then s else 30) = t ∧ kk (m : Int) = m ∧ m ≤ kk t := by
  obtain ⟨p, rfl, hp⟩ := nat_u8 ha
  obtain ⟨q, rfl, hq⟩ := nat_u8 hc
  refine ⟨p % 31, q % 9, ((p % 31 + q % 9 : Nat) : Int), _, by omega, ?_, by rw [w64_in _ (by omega)], ?_, by rw [w64_in _ (by omega)], by rw [w64_in _ (by omega)]; omega, rfl, by unfold kk; omega, ?_⟩
  · rw [Int.tmod_eq_emod_of_nonneg (by omega)]; omega
  · rw [Int.tmod_eq_emod_of_nonneg (by omega)]; omega
  · unfold kk
    split <;> omega

theorem bits_sum {A B : List Int} (ha : nrs A = true) (hb : nrs B = true) (la : A.length ≤ 50) (lb : B.length ≤ 50) (k : Int) : wrap64 (cbits A k + cbits B k) = cbits (A ++ B) k := by
  have h1 := sN_big ha (by omega) (kk k) (kk_le k)
  have h2 := sN_big hb (by omega) (kk k) (kk_le k)
  rw [cbits_append ha hb]
  unfold cbits
  rw [if_pos ha, if_pos hb, w64_in _ (by omega)]

theorem wid_max {A B : List Int} (ha : nrs A = true) (hb : nrs B = true) : (if cwid A < cwid B then cwid B else cwid A) = cwid (A ++ B) ∧ (if cwid B < cwid A then cwid A else cwid B) = cwid (A ++ B) := by
  rw [cwid_append ha hb]
  constructor <;> split <;> omega

theorem best_ends {A B : List Int} (ha : nrs A = true) (hb : nrs B = true) {m m' : Nat} (h : m ≤ m') : bestN A m ≤ bestN (A ++ B) m ∧ bestN A m' ≤ bestN A m ∧ bestE A = 0 ∧ bestE (A ++ B) = 0 := by
  have hn : nrs (A ++ B) = true := by rw [nrs_append, ha, hb]; rfl
  have h1 := cbN_longer A B m
  have h2 := cbN_more A h
  rw [(best_near ha m).2.2.1, (best_near ha m').2.2.1, (best_near hn m).2.2.1, (best_near ha m).2.2.2, (best_near hn m).2.2.2]
  omega

set_option maxRecDepth 10000 in
set_option maxHeartbeats 4000000 in
theorem walk_CostParts (w : World) (va : Value) (A : List Int) (hA : Sl w va (A.map (Value.int .i64))) (_hw : ∀ n ∈ A, (Lit.int .i64 n).wf = true) (vb : Value) (B : List Int) (hB : Sl w vb (B.map (Value.int .i64))) (_hw2 : ∀ n ∈ B, (Lit.int .i64 n).wf = true)
    (am : Int) (ham : (Lit.int .u8 am).wf = true) (an : Int) (han : (Lit.int .u8 an).wf = true) :
    Calls Try.prog 7 #[va, vb, .int .u8 am, .int .u8 an] w fun e w' => e = .returned (.bool true) ∧ Kept Nix w w' := by
  obtain ⟨m, r, s, t, r1, r2, r3, r4, r5, r6, r7, r8, r9⟩ := parts_nums ham han
  obtain ⟨ao, ac, rfl, -⟩ := hA.ints
  obtain ⟨bo, bc, rfl, -⟩ := hB.ints
  have HSA := Lib.hid (show Sl w (.slice ao A.length ac) (ivs A) from hA)
  have HSB := Lib.hid (show Sl w (.slice bo B.length bc) (ivs B) from hB)
  have HA := Lib.hid (awake_any w)
  have R8 := Lib.hid r8
  have R9 := Lib.hid r9
  clear hA hB _hw _hw2 ham han r1 r8 r9
  go_enter Try.func7, Try.ntmps7
  go_upto_region 2 with (go_at_call 9; refine HA.out.mono ?_; rintro e w1 ⟨rfl, k1⟩; have K1 := Lib.hid k1; clear k1)
  clear HA
  have HN := Lib.hid (rnears_any _ A w1 (HSA.out.nix K1.out))
  have HN2 := Lib.hid (rnears_any _ B w1 (HSB.out.nix K1.out))
  go_upto_region 3 with (go_at_call 18; refine HN.out.mono ?_; rintro e w2 ⟨rfl, rfl⟩; clear HN)
  go_upto_region 4 with (go_at_call 18; refine HN2.out.mono ?_; rintro e w2 ⟨rfl, rfl⟩; clear HN2)
  by_cases hl1 : 50 < A.length
  · have hd : decide ((50 : Int) < (A.length : Int)) = true := decide_eq_true (by omega)
    clear hl1
    go_wp2
    go_ret
    exact ⟨rfl, K1.out⟩
  have hd : decide ((50 : Int) < (A.length : Int)) = false := decide_eq_false (by omega)
  have LA := Lib.hid (show A.length ≤ 50 by omega)
  clear hl1
  by_cases hl2 : 50 < B.length
  · have hd2 : decide ((50 : Int) < (B.length : Int)) = true := decide_eq_true (by omega)
    clear hl2
    go_wp2
    go_ret
    exact ⟨rfl, K1.out⟩
  have hd2 : decide ((50 : Int) < (B.length : Int)) = false := decide_eq_false (by omega)
  have LB := Lib.hid (show B.length ≤ 50 by omega)
  clear hl2
  cases hna : nrs A with
  | false =>
    go_wp2
    go_ret
    exact ⟨rfl, K1.out⟩
  | true =>
    have NA := Lib.hid hna
    clear hna
    cases hnb : nrs B with
    | false =>
      go_wp2
      go_ret
      exact ⟨rfl, K1.out⟩
    | true =>
      have NB := Lib.hid hnb
      clear hnb
      go_upto_region 6 with fail
      clear hd hd2
      obtain ⟨sa, -⟩ := src_ivs (HSA.out.nix K1.out)
      have OE := Lib.hid (World.ownsRow_made (base := w2.heap.size) (e := 3) (size := 1) w2 #[] 0 (Nat.le_refl _) (by simp [maxLen]) (by simp))
      have SA := Lib.hid (sa.alloc (.cells #[] 3))
      have KE := Lib.hid ((Kept.refl Nix w2).alloc (.cells #[] 3))
      clear sa
      have b1 := Lib.hid (show 0 + A.length ≤ maxLen by have := LA.out; simp only [maxLen]; omega)
      have b2 := Lib.hid (show (0 + A.length) * 8 ≤ 140737488355328 by have := LA.out; omega)
      have b3 := Lib.hid (show 0 + A.length + B.length ≤ maxLen by have := LA.out; have := LB.out; simp only [maxLen]; omega)
      have b4 := Lib.hid (show (0 + A.length + B.length) * 8 ≤ 140737488355328 by have := LA.out; have := LB.out; omega)
      go_upto_region 7 with (first
        | (refine wpList_app _ rfl _ _ 22 rfl w2.heap.size 3 (.int .i64 0) 1 8 Try.underlying22 info_int rfl (by decide) (.slice (some ⟨w2.heap.size, 0, none⟩) 0 0) 0 [] rfl OE.out ao _ ac _ rfl SA.out b1.out b2.out (by simp) ?_
           intro v6 w6 o6 g6 n6; have k6 : Kept Nix w2 w6 := KE.out.grown g6 (fun kk hkk => .inr (OE.out.lt kk hkk).1); have K6 := Lib.hid k6; have O6 := Lib.hid o6; have S6 := Lib.hid (src_ivs (HSB.out.nix (nix_trans K1.out k6))).1; clear k6 o6 g6 n6 SA)
        | (refine wpList_app _ rfl _ _ 22 rfl w2.heap.size 3 (.int .i64 0) 1 8 Try.underlying22 info_int rfl (by decide) _ _ _ rfl O6.out bo _ bc _ rfl S6.out b3.out b4.out K6.out.size ?_
           intro v7 w7 o7 g7 n7; have k7 : Kept Nix w2 w7 := K6.out.grown g7 (fun kk hkk => .inr (O6.out.lt kk hkk).1); have K7 := Lib.hid k7; have O7 := Lib.hid o7; clear k7 o7 g7 n7))
      clear OE KE S6 O6 K6 b1 b2 b3 b4
      have SC := Lib.hid (show Sl w7 v7 (ivs (A ++ B)) by have h := sl_of_owns O7.out; simpa [ivs] using h)
      have LC := Lib.hid (show (A ++ B).length ≤ 1048576 by have := LA.out; have := LB.out; simp; omega)
      have BC := Lib.hid (cbits_any _ (A ++ B) (m : Int) w7 SC.out LC.out)
      have BA := Lib.hid (cbits_any _ A (m : Int) w7 (HSA.out.nix (nix_trans K1.out K7.out)) (by have := LA.out; omega))
      have BB := Lib.hid (cbits_any _ B (m : Int) w7 (HSB.out.nix (nix_trans K1.out K7.out)) (by have := LB.out; omega))
      have WC := Lib.hid (cwidth_any _ (A ++ B) w7 SC.out)
      have WA := Lib.hid (cwidth_any _ A w7 (HSA.out.nix (nix_trans K1.out K7.out)))
      have WB := Lib.hid (cwidth_any _ B w7 (HSB.out.nix (nix_trans K1.out K7.out)))
      have B1 := Lib.hid (cbest_any _ A (m : Int) w7 (HSA.out.nix (nix_trans K1.out K7.out)) (by have := LA.out; omega))
      have B2 := Lib.hid (fun w' (h : Kept Nix w7 w') => cbest_any _ (A ++ B) (m : Int) w' (SC.out.nix h) LC.out)
      have B3 := Lib.hid (fun w' (h : Kept Nix w7 w') => cbest_any _ A t w' (HSA.out.nix (nix_trans (nix_trans K1.out K7.out) h)) (by have := LA.out; omega))
      have hsum := bits_sum NA.out NB.out LA.out LB.out (m : Int)
      obtain ⟨hw1, hw2⟩ := wid_max NA.out NB.out
      obtain ⟨e1, e2, e3, e4⟩ := best_ends NA.out NB.out R9.out
      rw [R8.out] at B1 B2
      unfold bestV at B1 B2 B3
      rw [e3] at B1 B3
      rw [e4] at B2
      have t1 : decide (bestN A m ≤ bestN (A ++ B) m) = true := decide_eq_true e1
      have t2 : decide (bestN A (kk t) ≤ bestN A m) = true := decide_eq_true e2
      have KK := Lib.hid (nix_trans K1.out K7.out)
      clear SC LC O7 K7 e1 e2 e3 e4 HSA HSB
      generalize bestN A m = X at *
      generalize bestN (A ++ B) m = Y at *
      generalize bestN A (kk t) = Z at *
      generalize bestK A m = pa at *
      generalize bestK (A ++ B) m = pb at *
      generalize bestK A (kk t) = pc at *
      generalize bestR A m = ra at *
      generalize bestR (A ++ B) m = rb at *
      generalize bestR A (kk t) = rc at *
      generalize cbits A (m : Int) = xa at *
      generalize cbits B (m : Int) = xb at *
      generalize cbits (A ++ B) (m : Int) = xc at *
      generalize cwid A = wa at *
      generalize cwid B = wb at *
      generalize cwid (A ++ B) = wc at *
      have t3 : (xc != xc) = false := by simp
      have t4 : (wc != wc) = false := by simp
      go_upto_region 10 with (first
        | (go_at_call 10; refine BC.out.mono ?_; rintro e w8 ⟨rfl, rfl⟩; clear BC)
        | (go_at_call 10; refine BA.out.mono ?_; rintro e w8 ⟨rfl, rfl⟩; clear BA)
        | (go_at_call 10; refine BB.out.mono ?_; rintro e w8 ⟨rfl, rfl⟩; clear BB)
        | (go_at_call 12; refine WC.out.mono ?_; rintro e w8 ⟨rfl, rfl⟩; clear WC)
        | (go_at_call 12; refine WA.out.mono ?_; rintro e w8 ⟨rfl, rfl⟩; clear WA)
        | (go_at_call 12; refine WB.out.mono ?_; rintro e w8 ⟨rfl, rfl⟩; clear WB))
      clear hsum hw1 hw2 t3 t4
      go_upto_region 11 with (go_at_call 16; refine B1.out.mono ?_; rintro e w8 ⟨rfl, k8⟩; have K8 := Lib.hid (k8.alloc (.cells #[.int .i64 pa, .bool ra] 25)); clear k8 B1)
      generalize w8.alloc (.cells #[.int .i64 pa, .bool ra] 25) = w9 at *
      go_upto_region 12 with (go_at_call 16; refine (B2.out _ K8.out).mono ?_; rintro e w10 ⟨rfl, k10⟩; have K10 := Lib.hid (nix_trans K8.out (k10.alloc (.cells #[.int .i64 pb, .bool rb] 25))); clear k10 B2)
      generalize w10.alloc (.cells #[.int .i64 pb, .bool rb] 25) = w11 at *
      go_wp2_with (go_at_call 16; refine (B3.out _ K10.out).mono ?_; rintro e w12 ⟨rfl, k12⟩; have K12 := Lib.hid (nix_trans K10.out (k12.alloc (.cells #[.int .i64 pc, .bool rc] 25))); clear k12 B3)
      go_ret
      exact ⟨rfl, nix_trans KK.out K12.out⟩

end Go.Proofs.Ytpbfmbmdagpmpaa
