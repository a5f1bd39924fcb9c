/- The walk of FixedCurves. -/
import Derived.Test.YtoobnanbhniolaaLTells7
namespace Go.Proofs.Ytoobnanbhniolaa
open Go.RowKit Bx

/-- The polynomial. -/
def pol (a b c d : Int) (i : Nat) : Int := a + b * i + c * i * i + d * i * i * i
def pol1 (b c d : Int) (i : Nat) : Int := b + c + d + (c * i + c * i + 3 * (d * i)) + 3 * (d * i * i)
def pol2 (c d : Int) (i : Nat) : Int := 2 * c + 6 * d + 6 * (d * i)

theorem pol_step (a b c d : Int) (i : Nat) : pol a b c d (i + 1) - pol a b c d i = pol1 b c d i := by
  simp only [pol, pol1, Int.natCast_add, Int.natCast_one, Int.mul_add, Int.add_mul, Int.mul_one]
  omega
theorem pol1_step (b c d : Int) (i : Nat) : pol1 b c d (i + 1) - pol1 b c d i = pol2 c d i := by
  simp only [pol1, pol2, Int.natCast_add, Int.natCast_one, Int.mul_add, Int.add_mul, Int.mul_one]
  omega
theorem pol2_step (c d : Int) (i : Nat) : pol2 c d (i + 1) - pol2 c d i = 6 * d := by
  simp only [pol2, Int.natCast_add, Int.natCast_one, Int.mul_add, Int.mul_one]
  omega

def pols (a b c d : Int) (n : Nat) : List Int := (List.range n).map (pol a b c d)

theorem pols_length (a b c d : Int) (n : Nat) : (pols a b c d n).length = n := by simp [pols]
theorem pols_get (a b c d : Int) (n i : Nat) (h : i < n) : (pols a b c d n).getD i 0 = pol a b c d i := by simp [pols, List.getD, h]
theorem pols_succ (a b c d : Int) (i : Nat) : pols a b c d (i + 1) = pols a b c d i ++ [pol a b c d i] := by simp [pols, List.range_succ]

theorem pols_1 (a b c d : Int) (n i : Nat) (h : i + 1 < n) : (dn 1 (pols a b c d n)).getD i 0 = pol1 b c d i := by
  rw [dn_get 0 _ i (by rw [pols_length]; omega), dn, pols_get _ _ _ _ _ _ h, pols_get _ _ _ _ _ _ (by omega), pol_step]
theorem pols_2 (a b c d : Int) (n i : Nat) (h : i + 2 < n) : (dn 2 (pols a b c d n)).getD i 0 = pol2 c d i := by
  rw [dn_get 1 _ i (by rw [pols_length]; omega), pols_1 _ _ _ _ _ _ (by omega), pols_1 _ _ _ _ _ _ (by omega), pol1_step]
theorem pols_3 (a b c d : Int) (n i : Nat) (h : i + 3 < n) : (dn 3 (pols a b c d n)).getD i 0 = 6 * d := by
  rw [dn_get 2 _ i (by rw [pols_length]; omega), pols_2 _ _ _ _ _ _ (by omega), pols_2 _ _ _ _ _ _ (by omega), pol2_step]
theorem pols_4 (a b c d : Int) (n i : Nat) (h : i + 4 < n) : (dn 4 (pols a b c d n)).getD i 0 = 0 := by
  rw [dn_get 3 _ i (by rw [pols_length]; omega), pols_3 _ _ _ _ _ _ (by omega), pols_3 _ _ _ _ _ _ (by omega)]
  omega

theorem mul_in (y m : Int) (i : Nat) (h1 : -m ≤ y) (h2 : y ≤ m) (hi : i ≤ 44) : -(44 * m) ≤ y * (i : Int) ∧ y * (i : Int) ≤ 44 * m := by
  have hm : 0 ≤ m := by omega
  have a1 : y * (i : Int) ≤ m * (i : Int) := Int.mul_le_mul_of_nonneg_right h2 (by omega)
  have a2 : (-m) * (i : Int) ≤ y * (i : Int) := Int.mul_le_mul_of_nonneg_right h1 (by omega)
  have a3 : m * (i : Int) ≤ m * 44 := Int.mul_le_mul_of_nonneg_left (by omega) hm
  rw [Int.neg_mul] at a2
  omega

def S16 (a : Int) : Prop := -32768 ≤ a ∧ a ≤ 32767

theorem pol_parts (a b c d : Int) (i : Nat) (ha : S16 a) (hb : S16 b) (hc : S16 c) (hd : S16 d) (hi : i ≤ 44) : ∃ p1 s1 q1 q2 s2 r1 r2 r3 : Int,
    wrap64 (b * (i : Int)) = p1 ∧ wrap64 (a + p1) = s1 ∧ wrap64 (c * (i : Int)) = q1 ∧ wrap64 (q1 * (i : Int)) = q2 ∧ wrap64 (s1 + q2) = s2 ∧ wrap64 (d * (i : Int)) = r1 ∧ wrap64 (r1 * (i : Int)) = r2 ∧ wrap64 (r2 * (i : Int)) = r3 ∧
    wrap64 (s2 + r3) = pol a b c d i ∧ -1099511627776 ≤ pol a b c d i ∧ pol a b c d i ≤ 1099511627776 := by
  unfold S16 at *
  have h1 := mul_in b 32768 i (by omega) (by omega) hi
  have h2 := mul_in c 32768 i (by omega) (by omega) hi
  have h3 := mul_in (c * i) _ i h2.1 h2.2 hi
  have h4 := mul_in d 32768 i (by omega) (by omega) hi
  have h5 := mul_in (d * i) _ i h4.1 h4.2 hi
  have h6 := mul_in (d * i * i) _ i h5.1 h5.2 hi
  unfold pol
  generalize hx1 : b * (i : Int) = x1 at *
  generalize hx2 : c * (i : Int) = x2 at *
  generalize hx3 : x2 * (i : Int) = x3 at *
  generalize hx4 : d * (i : Int) = x4 at *
  generalize hx5 : x4 * (i : Int) = x5 at *
  generalize hx6 : x5 * (i : Int) = x6 at *
  refine ⟨x1, a + x1, x2, x3, a + x1 + x3, x4, x5, x6, w64_in _ (by omega), w64_in _ (by omega), w64_in _ (by omega), by rw [hx3]; exact w64_in _ (by omega), w64_in _ (by omega), w64_in _ (by omega), by rw [hx5]; exact w64_in _ (by omega), by rw [hx6]; exact w64_in _ (by omega), w64_in _ (by omega), by omega, by omega⟩

theorem s16_in {a : Int} (h : S16 a) : wrap64 a = a := w64_in _ (by unfold S16 at h; omega)

theorem pols_bd (a b c d : Int) (n : Nat) (ha : S16 a) (hb : S16 b) (hc : S16 c) (hd : S16 d) (hn : n ≤ 45) : Bd 1099511627776 (pols a b c d n) := by
  intro i hi
  rw [pols_length] at hi
  rw [pols_get _ _ _ _ _ _ hi]
  obtain ⟨_, _, _, _, _, _, _, _, _, _, _, _, _, _, _, _, _, h1, h2⟩ := pol_parts a b c d i ha hb hc hd (by omega)
  exact ⟨h1, h2⟩

def CurInv (a b c d : Int) (n : Nat) (w : World) (ac : Act) (w' : World) : Prop :=
  ac.defers = [] ∧ ac.tmps.size = 113 ∧ ac.tmps[0]? = some (.int .i16 a) ∧ ac.tmps[1]? = some (.int .i16 b) ∧ ac.tmps[2]? = some (.int .i16 c) ∧ ac.tmps[3]? = some (.int .i16 d) ∧ ac.tmps[11]? = some (.bool true) ∧ ac.tmps[12]? = some (.int .i64 (n : Int)) ∧
  ∃ i : Nat, i ≤ n ∧ ac.tmps[14]? = some (.int .i64 (i : Int)) ∧ ∃ u, ac.tmps[13]? = some u ∧ w'.ownsRow w.heap.size 3 1 u i (ivs (pols a b c d i)) ∧ Kept Nix w w'

def Cur2 (d : Int) (n m : Nat) (va vb : Value) (slot : Nat) (w : World) (ac : Act) (w' : World) : Prop :=
  ac.defers = [] ∧ ac.tmps.size = 113 ∧ ac.tmps[3]? = some (.int .i16 d) ∧ ac.tmps[11]? = some (.bool true) ∧ ac.tmps[12]? = some (.int .i64 (n : Int)) ∧ ac.tmps[15]? = some va ∧ ac.tmps[17]? = some vb ∧
  ∃ i : Nat, i ≤ m ∧ ac.tmps[slot]? = some (.int .i64 (i : Int)) ∧ w' = w

theorem cur_nums (i n : Nat) (h : i < n) (hn : n ≤ 45) : wrap64 ((i : Int) + 1) = ((i + 1 : Nat) : Int) ∧ i + 1 ≤ maxLen ∧ (i + 1) * 8 ≤ 140737488355328 ∧ i ≤ 44 := by
  refine ⟨?_, ?_, by omega, by omega⟩
  · unfold wrap64; omega
  · simp only [maxLen]; omega

theorem cur_ends (n : Nat) (h1 : 5 ≤ n) (h2 : n ≤ 45) : wrap64 ((n : Int) - 3) = ((n - 3 : Nat) : Int) ∧ wrap64 ((n : Int) - 4) = ((n - 4 : Nat) : Int) := by
  constructor <;> (unfold wrap64; omega)

set_option maxHeartbeats 4000000 in
theorem walk_FixedCurves (w : World) (a : Int) (wa : (Lit.int .i16 a).wf = true) (b : Int) (wb : (Lit.int .i16 b).wf = true) (c : Int) (wc : (Lit.int .i16 c).wf = true) (d : Int) (wd : (Lit.int .i16 d).wf = true) (many : Int) (wm : (Lit.int .u8 many).wf = true) :
    Calls Try.prog 7 #[.int .i16 a, .int .i16 b, .int .i16 c, .int .i16 d, .int .u8 many] w fun e w' => e = .returned (.bool true) ∧ Kept Nix w w' := by
  have HA := awake_any w
  have SA := Lib.hid (show S16 a from bounds_i16 wa)
  have SB := Lib.hid (show S16 b from bounds_i16 wb)
  have SC := Lib.hid (show S16 c from bounds_i16 wc)
  have SD := Lib.hid (show S16 d from bounds_i16 wd)
  obtain ⟨o, rfl, ho⟩ := nat_u8 wm
  obtain ⟨n, hn⟩ : ∃ n : Nat, n = 5 + o % 40 := ⟨_, rfl⟩
  have hnm : wrap64 (5 + (o : Int) % 40) = (n : Int) := by rw [w64_in _ (by omega)]; omega
  have HN1 := Lib.hid (show 5 ≤ n by omega)
  have HN2 := Lib.hid (show n ≤ 45 by omega)
  have HNM := Lib.hid hnm
  clear wa wb wc wd wm ho hn
  go_enter Try.func7, Try.ntmps7
  go_upto_region 3 with (first
    | (go_at_call 9; refine HA.mono ?_; rintro e w1 ⟨rfl, k1⟩; have K1 := Lib.hid k1; clear k1))
  have hnm2 : 5 + (o : Int) % 40 = (n : Int) := by have := HNM.out; unfold wrap64 at this; omega
  rw [hnm2]
  generalize (o : Int) % 40 = om at *
  clear hnm hnm2 HNM HA
  go_upto_region 5 with fail
  refine wp_loop (CurInv a b c d n w1) (fun ac _ => n - (intOf (ac.tmps.getD 14 undef)).toNat) ?_ ?_
  · exact ⟨rfl, rfl, rfl, rfl, rfl, rfl, rfl, rfl, 0, Nat.zero_le _, rfl, _, rfl, World.ownsRow_nil _ _ _ _, Kept.refl _ _⟩
  · rintro ⟨tm, df⟩ w2 ⟨rfl, hs, h0, h1, h2, h3, h11, h12, i, hi, h14, u, h13, hou, hkp⟩
    simp only at hs h0 h1 h2 h3 h11 h12 h14 h13
    obtain ⟨f, hf, hg⟩ := fr_open hs
    have e0 := hg _ _ h0
    have e1 := hg _ _ h1
    have e2 := hg _ _ h2
    have e3 := hg _ _ h3
    have e11 := hg _ _ h11
    have e12 := hg _ _ h12
    have e14 := hg _ _ h14
    have e13 := hg _ _ h13
    simp only [List.range, List.range.loop, List.map] at hf
    rw [e0, e1, e2, e3, e11, e12, e14, e13] at hf
    clear e0 e1 e2 e3 e11 e12 e14 e13 hg hs h0 h1 h2 h3 h11 h12 h14 h13
    subst hf
    have HOU := Lib.hid hou
    have HKP := Lib.hid hkp
    clear hou hkp
    by_cases hlt : i < n
    · have hdd : decide (i < n) = true := decide_eq_true hlt
      have HI := Lib.hid hlt
      obtain ⟨m1, m2, m3, m4⟩ := cur_nums i n hlt HN2.out
      obtain ⟨p1, s1, q1, q2, s2, r1, r2, r3, y1, y2, y3, y4, y5, y6, y7, y8, y9, _, _⟩ := pol_parts a b c d i SA.out SB.out SC.out SD.out m4
      have ya := s16_in SA.out
      have yb := s16_in SB.out
      have yc := s16_in SC.out
      have yd := s16_in SD.out
      have M2 := Lib.hid m2
      have M3 := Lib.hid m3
      have PS := Lib.hid (pols_succ a b c d i)
      have HO2 := Lib.hid (HOU.out.alloc (.cells #[.int .i64 (pol a b c d i)] 3))
      generalize pol a b c d i = P at *
      have M1 := Lib.hid m1
      clear m1 m2 m3 m4 hlt hi
      generalize hi' : i + 1 = i' at *
      have HI' := Lib.hid hi'
      clear hi'
      go_wp2_with (refine wpList_app _ rfl _ _ 22 rfl w1.heap.size 3 (.int .i64 0) 1 8 Try.underlying22 info_int rfl (by decide) u i _ rfl HO2.out _ 1 1 [.int .i64 P] rfl (src_one w2 _ _ rfl) (by rw [HI'.out]; exact M2.out) (by rw [HI'.out]; exact M3.out) (by have := HKP.out.size; simp; omega) ?_
                   intro v6 w6 o6 g6 n6; have k6 : Kept Nix w1 w6 := (HKP.out.alloc _).grown g6 (fun kk hkk => .inr (HO2.out.lt kk hkk).1); have K6 := Lib.hid k6; have O6 := Lib.hid o6; clear k6 o6 g6 n6)
      rw [M1.out]
      refine ⟨⟨rfl, rfl, rfl, rfl, rfl, rfl, rfl, rfl, i', ?_, rfl, v6, rfl, ?_, K6.out⟩, nearer HI.out HI'.out⟩
      · rw [← HI'.out]; exact HI.out
      · rw [PS.out, ivs_append, ← HI'.out]
        exact O6.out
    · have hdd : decide (i < n) = false := decide_eq_false hlt
      have hie : i = n := by omega
      subst hie
      have hn5 := HN1.out
      have HB := Lib.hid (pols_bd a b c d i SA.out SB.out SC.out SD.out HN2.out)
      have hpl := pols_length a b c d i
      have HPL := Lib.hid (show (pols a b c d i).length < 1099511627776 by rw [hpl]; have := HN2.out; omega)
      have hk3 : (3 : Nat) ≤ (pols a b c d i).length := by rw [hpl]; omega
      have hk4 : (4 : Nat) ≤ (pols a b c d i).length := by rw [hpl]; omega
      have E3 := Lib.hid (show resE (pols a b c d i).length 3 = 0 from resE_ok (n := (pols a b c d i).length) (k := 3) (by decide) hk3)
      have E4 := Lib.hid (show resE (pols a b c d i).length 4 = 0 from resE_ok (n := (pols a b c d i).length) (k := 4) (by decide) hk4)
      have L3 := Lib.hid (show resL (pols a b c d i) 3 = dn 3 (pols a b c d i) from resL_ok (zs := pols a b c d i) (k := 3) (by decide) hk3)
      have L4 := Lib.hid (show resL (pols a b c d i) 4 = dn 4 (pols a b c d i) from resL_ok (zs := pols a b c d i) (k := 4) (by decide) hk4)
      have N3 := Lib.hid (show (dn 3 (pols a b c d i)).length = i - 3 by rw [dn_length, hpl])
      have N4 := Lib.hid (show (dn 4 (pols a b c d i)).length = i - 4 by rw [dn_length, hpl])
      have R1 := Lib.hid (res_any u (pols a b c d i) 3 w2 (sl_of_owns HOU.out) HPL.out HB.out)
      have C3 := Lib.hid (show ∀ j, j < i - 3 → (dn 3 (pols a b c d i)).getD j 0 = 6 * d from fun j hj => pols_3 a b c d i j (by omega))
      have C4 := Lib.hid (show ∀ j, j < i - 4 → (dn 4 (pols a b c d i)).getD j 0 = 0 from fun j hj => pols_4 a b c d i j (by omega))
      obtain ⟨z3, z4⟩ := cur_ends i hn5 HN2.out
      have hd6 : wrap64 (6 * d) = 6 * d := w64_in _ (by have := SD.out; unfold S16 at this; omega)
      have Z3 := Lib.hid z3
      have Z4 := Lib.hid z4
      have D6 := Lib.hid hd6
      have HSO := Lib.hid (sl_of_owns HOU.out)
      clear hlt hi hn5 hpl hk3 hk4 z3 z4 hd6
      generalize pols a b c d i = X at *
      have HN3 := Lib.hid (show i - 3 ≤ 45 by have := HN2.out; omega)
      have HN4 := Lib.hid (show i - 4 ≤ 45 by have := HN2.out; omega)
      generalize i - 3 = n3 at *
      generalize i - 4 = n4 at *
      go_upto_region 12 with (first
        | (go_at_call 11; refine R1.out.mono ?_; rintro e w3 ⟨u3, rfl, ho3, hk3⟩; rw [E3.out]; rw [L3.out, N3.out] at ho3; have HO3 := Lib.hid ho3; have K3 := Lib.hid hk3; obtain ⟨ao3, cap3, rfl, _, _⟩ := owns_shape ho3; clear ho3 hk3 R1
           have R2 := Lib.hid (res_any u X 4 w3 (HSO.out.nix K3.out) HPL.out HB.out))
        | (go_at_call 11; refine R2.out.mono ?_; rintro e w4 ⟨u4, rfl, ho4, hk4⟩; rw [E4.out]; rw [L4.out, N4.out] at ho4; have HO4 := Lib.hid ho4; have K4 := Lib.hid (nix_trans HKP.out (nix_trans K3.out hk4)); have HP3 := Lib.hid (hk4.owns HO3.out (fun _ _ h => h)); obtain ⟨ao4, cap4, rfl, _, _⟩ := owns_shape ho4; clear ho4 hk4 R2))
      clear E3 E4 L3 L4 HO3 HSO HOU HPL HB
      go_upto_region 13 with fail
      refine wp_loop (Cur2 d i n3 (.slice ao3 n3 cap3) (.slice ao4 n4 cap4) 19 w4) (fun ac _ => n3 - (intOf (ac.tmps.getD 19 undef)).toNat) ?_ ?_
      · exact ⟨rfl, rfl, rfl, rfl, rfl, rfl, rfl, 0, Nat.zero_le _, rfl, rfl⟩
      · rintro ⟨tm, df⟩ w5 ⟨rfl, hs, h3, h11, h12, h15, h17, j, hj, h19, rfl⟩
        simp only at hs h3 h11 h12 h15 h17 h19
        obtain ⟨f2, hf, hg⟩ := fr_open hs
        have e3 := hg _ _ h3
        have e11 := hg _ _ h11
        have e12 := hg _ _ h12
        have e15 := hg _ _ h15
        have e17 := hg _ _ h17
        have e19 := hg _ _ h19
        simp only [List.range, List.range.loop, List.map] at hf
        rw [e3, e11, e12, e15, e17, e19] at hf
        clear e3 e11 e12 e15 e17 e19 hg hs h3 h11 h12 h15 h17 h19
        subst hf
        by_cases hlt : j < n3
        · obtain ⟨g3, c3, e3, _, _, _, _⟩ := owns_pos HP3.out (by omega)
          simp only [Value.slice.injEq, true_and] at e3
          obtain ⟨rfl, rfl⟩ := e3
          have c1 : w5.cell? ⟨g3, j, none⟩ = some (.int .i64 (6 * d)) := by
            rw [HP3.out.cellAt j (by omega), ivs_get _ _ (by rw [N3.out]; exact hlt), C3.out j hlt]
          have hj1 : (j : Int) < (n3 : Int) := by omega
          have hdd : decide (j < n3) = true := decide_eq_true hlt
          have HJ := Lib.hid hlt
          have M := Lib.hid (w64_in ((j : Int) + 1) (by have := HN3.out; omega))
          have yd := s16_in SD.out
          obtain ⟨d6, hd6⟩ : ∃ q, wrap64 (6 * d) = q := ⟨_, rfl⟩
          have hq : 6 * d = d6 := by rw [← hd6, D6.out]
          rw [hq] at c1
          have hb6 : (d6 != d6) = false := bne_self_eq_false _
          clear hlt hj hq
          go_wp2
          rw [M.out]
          exact ⟨⟨rfl, rfl, rfl, rfl, rfl, rfl, rfl, j + 1, HJ.out, by simp, rfl⟩, nearer HJ.out rfl⟩
        · have hdd : decide (j < n3) = false := decide_eq_false hlt
          clear hlt hj
          go_upto_region 18 with fail
          refine wp_loop (Cur2 d i n4 (.slice ao3 n3 cap3) (.slice ao4 n4 cap4) 20 w5) (fun ac _ => n4 - (intOf (ac.tmps.getD 20 undef)).toNat) ?_ ?_
          · exact ⟨rfl, rfl, rfl, rfl, rfl, rfl, rfl, 0, Nat.zero_le _, rfl, rfl⟩
          · rintro ⟨tm, df⟩ w6 ⟨rfl, hs, h3, h11, h12, h15, h17, j, hj, h20, rfl⟩
            simp only at hs h3 h11 h12 h15 h17 h20
            obtain ⟨f3, hf, hg⟩ := fr_open hs
            have e3 := hg _ _ h3
            have e11 := hg _ _ h11
            have e12 := hg _ _ h12
            have e15 := hg _ _ h15
            have e17 := hg _ _ h17
            have e20 := hg _ _ h20
            simp only [List.range, List.range.loop, List.map] at hf
            rw [e3, e11, e12, e15, e17, e20] at hf
            clear e3 e11 e12 e15 e17 e20 hg hs h3 h11 h12 h15 h17 h20
            subst hf
            by_cases hlt : j < n4
            · obtain ⟨g4, c4, e4, _, _, _, _⟩ := owns_pos HO4.out (by omega)
              simp only [Value.slice.injEq, true_and] at e4
              obtain ⟨rfl, rfl⟩ := e4
              have c1 : w6.cell? ⟨g4, j, none⟩ = some (.int .i64 0) := by
                rw [HO4.out.cellAt j (by omega), ivs_get _ _ (by rw [N4.out]; exact hlt), C4.out j hlt]
              have hj1 : (j : Int) < (n4 : Int) := by omega
              have hdd : decide (j < n4) = true := decide_eq_true hlt
              have HJ := Lib.hid hlt
              have M := Lib.hid (w64_in ((j : Int) + 1) (by have := HN4.out; omega))
              clear hlt hj
              go_wp2
              rw [M.out]
              exact ⟨⟨rfl, rfl, rfl, rfl, rfl, rfl, rfl, j + 1, HJ.out, by simp, rfl⟩, nearer HJ.out rfl⟩
            · have hdd : decide (j < n4) = false := decide_eq_false hlt
              have z3 := Z3.out
              have z4 := Z4.out
              have b3 : ((n3 : Int) == (n3 : Int)) = true := beq_self_eq_true _
              have b4 : ((n4 : Int) == (n4 : Int)) = true := beq_self_eq_true _
              clear hlt hj
              go_wp2
              go_ret
              exact ⟨rfl, nix_trans K1.out K4.out⟩

end Go.Proofs.Ytoobnanbhniolaa
