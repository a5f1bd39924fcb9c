/- The walk of FixedSums. -/
import Derived.Test.YtoobnanbhniolaaLTells7
namespace Go.Proofs.Ytoobnanbhniolaa
open Go.RowKit Bx

/-- The sums of two rows, of the first n numbers. -/
def sms (x y : List Int) (n : Nat) : List Int := (List.range n).map (fun i => x.getD i 0 + y.getD i 0)

theorem sms_length (x y : List Int) (n : Nat) : (sms x y n).length = n := by simp [sms]
theorem sms_get (x y : List Int) (n i : Nat) (h : i < n) : (sms x y n).getD i 0 = x.getD i 0 + y.getD i 0 := by simp [sms, List.getD, h]
theorem sms_succ (x y : List Int) (i : Nat) : sms x y (i + 1) = sms x y i ++ [x.getD i 0 + y.getD i 0] := by simp [sms, List.range_succ]

theorem dn_sms (x y : List Int) (n : Nat) (hx : x.length = n) (hy : y.length = n) : ∀ k i, i + k < n → (dn k (sms x y n)).getD i 0 = (dn k x).getD i 0 + (dn k y).getD i 0 := by
  intro k
  induction k with
  | zero => intro i hi; exact sms_get x y n i hi
  | succ k ih =>
    intro i hi
    rw [dn_get k _ i (by rw [sms_length]; omega), dn_get k x i (by omega), dn_get k y i (by omega), ih (i + 1) (by omega), ih i (by omega)]
    omega

/-- What is left of both, and of the sums. -/
theorem res_sms (x y : List Int) (n k : Nat) (hx : x.length = n) (hy : y.length = n) : ∃ m : Nat, m ≤ n ∧ (resL x (k : Int)).length = m ∧ (resL y (k : Int)).length = m ∧ (resL (sms x y n) (k : Int)).length = m ∧
    ∀ i, i < m → (resL (sms x y n) (k : Int)).getD i 0 = (resL x (k : Int)).getD i 0 + (resL y (k : Int)).getD i 0 := by
  unfold resL
  rw [hx, hy, sms_length]
  by_cases h : resE n (k : Int) = 0
  · rw [if_pos h, if_pos h, if_pos h]
    refine ⟨n - k, by omega, ?_, ?_, ?_, ?_⟩
    · rw [dn_length, hx]; rfl
    · rw [dn_length, hy]; rfl
    · rw [dn_length, sms_length]; rfl
    · intro i hi
      exact dn_sms x y n hx hy k i (by omega)
  · rw [if_neg h, if_neg h, if_neg h]
    exact ⟨0, by omega, rfl, rfl, rfl, fun i hi => absurd hi (by omega)⟩

/-- Are the first i of both from -2^39 to 2^39? -/
def Low (x : List Int) (i : Nat) : Prop := ∀ j, j < i → -549755813888 ≤ x.getD j 0 ∧ x.getD j 0 ≤ 549755813888

def SumA (vx vy : Value) (x y : List Int) (n k : Nat) (w : World) (ac : Act) (w' : World) : Prop :=
  ac.defers = [] ∧ ac.tmps.size = 135 ∧ ac.tmps[0]? = some vx ∧ ac.tmps[1]? = some vy ∧ ac.tmps[7]? = some (.bool true) ∧ ac.tmps[8]? = some (.int .i64 (k : Int)) ∧
  ∃ i : Nat, i ≤ n ∧ ac.tmps[10]? = some (.int .i64 (i : Int)) ∧ Low x i ∧ Low y i ∧ ∃ u, ac.tmps[9]? = some u ∧ w'.ownsRow w.heap.size 3 1 u i (ivs (sms x y i)) ∧ Kept Nix w w'

theorem sum_nums (i n : Nat) (x y : Int) (h : i < n) (hn : n ≤ 60) (hx : -549755813888 ≤ x ∧ x ≤ 549755813888) (hy : -549755813888 ≤ y ∧ y ≤ 549755813888) :
    wrap64 ((i : Int) + 1) = ((i + 1 : Nat) : Int) ∧ IntKind.i64.wrap (x + y) = x + y ∧ i + 1 ≤ maxLen ∧ (i + 1) * 8 ≤ 140737488355328 := by
  refine ⟨?_, IntWalk.i64_in _ (by omega), ?_, by omega⟩
  · unfold wrap64; omega
  · simp only [maxLen]; omega

theorem low_bd {x : List Int} {n : Nat} (h : Low x n) (hn : x.length = n) : Bd 1099511627776 x := fun i hi => by
  have := h i (by omega)
  omega

theorem sms_bd {x y : List Int} {n : Nat} (hx : Low x n) (hy : Low y n) : Bd 1099511627776 (sms x y n) := fun i hi => by
  rw [sms_length] at hi
  rw [sms_get _ _ _ _ hi]
  have := hx i hi
  have := hy i hi
  omega

def SumB (va vb vc : Value) (m : Nat) (w : World) (ac : Act) (w' : World) : Prop :=
  ac.defers = [] ∧ ac.tmps.size = 135 ∧ ac.tmps[7]? = some (.bool true) ∧ ac.tmps[11]? = some va ∧ ac.tmps[13]? = some vb ∧ ac.tmps[15]? = some vc ∧
  ∃ i : Nat, i ≤ m ∧ ac.tmps[17]? = some (.int .i64 (i : Int)) ∧ ∃ q, w' = w.drewN q

theorem sum_wraps (A B C : List Int) (i m : Nat) (hi : i < m) (hm : m ≤ 60) (hC : C.getD i 0 = A.getD i 0 + B.getD i 0) (hb : Bd 35184372088832 C) : IntKind.i64.wrap (A.getD i 0 + B.getD i 0) = C.getD i 0 ∧ wrap64 ((i : Int) + 1) = ((i + 1 : Nat) : Int) := by
  have h := hb.any (by decide) i
  rw [← hC]
  refine ⟨IntWalk.i64_in _ (by omega), ?_⟩
  unfold wrap64
  omega

theorem resL_bd {z : List Int} {k : Nat} (hk : k ≤ 4) (h : Bd 1099511627776 z) : Bd 35184372088832 (resL z (k : Int)) := by
  unfold resL
  split
  · exact h.dn (by decide) k (by omega)
  · intro i hi
    exact absurd hi (by simp)

set_option maxRecDepth 10000 in
set_option maxHeartbeats 4000000 in
theorem walk_FixedSums (w : World) (vx : Value) (x : List Int) (hx : Sl w vx (x.map (Value.int .i64))) (_ : ∀ n ∈ x, (Lit.int .i64 n).wf = true) (vy : Value) (y : List Int) (hy : Sl w vy (y.map (Value.int .i64))) (_ : ∀ n ∈ y, (Lit.int .i64 n).wf = true) (order : Int) (wo : (Lit.int .u8 order).wf = true) :
    Calls Try.prog 8 #[vx, vy, .int .u8 order] w fun e w' => e = .returned (.bool true) ∧ Kept Nix w w' := by
  have HA := awake_any w
  obtain ⟨o, rfl, ho⟩ := nat_u8 wo
  obtain ⟨xo, xcap, rfl, -⟩ := hx.ints
  obtain ⟨yo, ycap, rfl, -⟩ := hy.ints
  obtain ⟨k, hk⟩ : ∃ k : Nat, k = o % 5 := ⟨_, rfl⟩
  have hkm : (o : Int) % 5 = (k : Int) := by omega
  have HX := Lib.hid (sl_ivs hx)
  have HY := Lib.hid (sl_ivs hy)
  have HK4 := Lib.hid (show k ≤ 4 by omega)
  clear hx hy wo ho hk
  go_enter Try.func8, Try.ntmps8
  go_upto_region 3 with (first
    | (go_at_call 9; refine HA.mono ?_; rintro e w1 ⟨rfl, k1⟩; have K1 := Lib.hid k1; clear k1))
  generalize (o : Int) % 5 = om at *
  clear hkm HA
  by_cases hlen : 60 < x.length
  · have hd : decide ((60 : Int) < (x.length : Int)) = true := decide_eq_true (by omega)
    clear hlen
    go_wp2
    go_ret
    exact ⟨rfl, K1.out⟩
  have hd : decide ((60 : Int) < (x.length : Int)) = false := decide_eq_false (by omega)
  by_cases hxy' : ¬ y.length = x.length
  · have hd2 : ((y.length : Int) != (x.length : Int)) = true := bne_iff_ne.2 (by omega)
    clear hlen hxy'
    go_wp2
    go_ret
    exact ⟨rfl, K1.out⟩
  have hxy : y.length = x.length := Classical.not_not.1 hxy'
  clear hxy'
  have hd2 : ((y.length : Int) != (x.length : Int)) = false := by rw [hxy]; exact bne_self_eq_false _
  have HL := Lib.hid (show x.length ≤ 60 by omega)
  have HXY := Lib.hid hxy
  clear hlen
  rw [hxy] at hd2 ⊢
  clear hxy
  generalize hn : x.length = n at *
  have HN := Lib.hid hn
  clear hn
  go_upto_region 7 with fail
  clear hd hd2
  refine wp_loop (SumA (.slice xo n xcap) (.slice yo n ycap) x y n k w1) (fun ac _ => n - (intOf (ac.tmps.getD 10 undef)).toNat) ?_ ?_
  · exact ⟨rfl, rfl, rfl, rfl, rfl, rfl, 0, Nat.zero_le _, rfl, fun j hj => absurd hj (by omega), fun j hj => absurd hj (by omega), _, rfl, World.ownsRow_nil _ _ _ _, Kept.refl _ _⟩
  · rintro ⟨tm, df⟩ w2 ⟨rfl, hs, h0, h1, h7, h8, i, hi, h10, hlx, hly, u, h9, hou, hkp⟩
    simp only at hs h0 h1 h7 h8 h10 h9
    obtain ⟨f, hf, hg⟩ := fr_open hs
    have e0 := hg _ _ h0
    have e1 := hg _ _ h1
    have e7 := hg _ _ h7
    have e8 := hg _ _ h8
    have e10 := hg _ _ h10
    have e9 := hg _ _ h9
    simp only [List.range, List.range.loop, List.map] at hf
    rw [e0, e1, e7, e8, e10, e9] at hf
    clear e0 e1 e7 e8 e10 e9 hg hs h0 h1 h7 h8 h10 h9
    subst hf
    have HOU := Lib.hid hou
    have HKP := Lib.hid hkp
    have HLX := Lib.hid hlx
    have HLY := Lib.hid hly
    clear hou hkp hlx hly
    by_cases hlt : i < n
    · have hdd : decide (i < n) = true := decide_eq_true hlt
      have hi1 : (i : Int) < (n : Int) := by omega
      have HI := Lib.hid hlt
      obtain ⟨b1, o1, rfl, c1⟩ : ∃ b off, xo = some ⟨b, off, none⟩ ∧ w2.cell? ⟨b, off + i, none⟩ = some (.int .i64 (x.getD i 0)) := by
        obtain ⟨ao', cap', e, _, _, hp⟩ := (HX.out.nix (nix_trans K1.out HKP.out)).ints
        simp only [Value.slice.injEq] at e
        obtain ⟨rfl, _, _⟩ := e
        obtain ⟨b, off, e, _, h⟩ := hp (by have := HN.out; omega)
        exact ⟨b, off, e, h i (by have := HN.out; omega)⟩
      obtain ⟨b2, o2, rfl, c2⟩ : ∃ b off, yo = some ⟨b, off, none⟩ ∧ w2.cell? ⟨b, off + i, none⟩ = some (.int .i64 (y.getD i 0)) := by
        obtain ⟨ao', cap', e, _, _, hp⟩ := (HY.out.nix (nix_trans K1.out HKP.out)).ints
        simp only [Value.slice.injEq] at e
        obtain ⟨rfl, _, _⟩ := e
        obtain ⟨b, off, e, _, h⟩ := hp (by have := HXY.out; omega)
        exact ⟨b, off, e, h i (by have := HXY.out; omega)⟩
      have CL := Lib.hid (show ∀ w', Kept Nix w1 w' → w'.cell? ⟨b1, o1 + i, none⟩ = some (.int .i64 (x.getD i 0)) ∧ w'.cell? ⟨b2, o2 + i, none⟩ = some (.int .i64 (y.getD i 0)) from fun w' hk' => by
        obtain ⟨ao', cap', e, _, _, hp⟩ := (HX.out.nix (nix_trans K1.out hk')).ints
        obtain ⟨bo', cap2', e2, _, _, hp2⟩ := (HY.out.nix (nix_trans K1.out hk')).ints
        simp only [Value.slice.injEq] at e e2
        obtain ⟨b, off, e', _, h⟩ := hp (by have := HN.out; omega)
        obtain ⟨b', off', e2', _, h2⟩ := hp2 (by have := HXY.out; omega)
        have f1 : some (⟨b1, o1, none⟩ : Addr) = some ⟨b, off, none⟩ := e.1.trans e'
        have f2 : some (⟨b2, o2, none⟩ : Addr) = some ⟨b', off', none⟩ := e2.1.trans e2'
        simp only [Option.some.injEq, Addr.mk.injEq, and_true] at f1 f2
        rw [f1.1, f1.2, f2.1, f2.2]
        exact ⟨h i (by have := HN.out; omega), h2 i (by have := HXY.out; omega)⟩)
      clear hlt hi
      generalize hxi : x.getD i 0 = xi at *
      generalize hyi : y.getD i 0 = yi at *
      have HXI := Lib.hid hxi
      have HYI := Lib.hid hyi
      clear hxi hyi
      obtain ⟨M, hM⟩ : ∃ M : Int, (if xi < yi then yi else xi) = M := ⟨_, rfl⟩
      obtain ⟨m, hm1⟩ : ∃ m : Int, (if yi < xi then yi else xi) = m := ⟨_, rfl⟩
      have hm2 : (if xi < yi then xi else yi) = m := by rw [← hm1]; split <;> split <;> omega
      have HMM := Lib.hid (And.intro hM hm1)
      by_cases hgt : 549755813888 < M
      · have hd1 : decide (549755813888 < M) = true := decide_eq_true hgt
        clear hgt
        go_upto_region 9 with fail
        go_quiet (fail)
        go_wp2
        go_ret
        exact ⟨rfl, (nix_trans K1.out HKP.out).drewN _⟩
      have hd1 : decide (549755813888 < M) = false := decide_eq_false hgt
      by_cases hls : m < -549755813888
      · have hd2 : decide (m < -549755813888) = true := decide_eq_true hls
        clear hgt hls
        go_upto_region 9 with fail
        go_quiet (fail)
        go_wp2
        go_ret
        exact ⟨rfl, (nix_trans K1.out HKP.out).drewN _⟩
      have hd2 : decide (m < -549755813888) = false := decide_eq_false hls
      have hbx : (-549755813888 ≤ xi ∧ xi ≤ 549755813888) ∧ (-549755813888 ≤ yi ∧ yi ≤ 549755813888) := by
        obtain ⟨a1, a2⟩ := HMM.out
        split at a1 <;> split at a2 <;> omega
      have HBX := Lib.hid hbx
      clear hgt hls hbx HMM
      go_upto_region 9 with fail
      go_quiet (fail)
      generalize hnq : nq = n1 at *
      clear hnq
      have c1 : (w2.drewN n1).cell? ⟨b1, o1 + i, none⟩ = some (.int .i64 xi) := c1
      have c2 : (w2.drewN n1).cell? ⟨b2, o2 + i, none⟩ = some (.int .i64 yi) := c2
      have HKX := Lib.hid (HKP.out.drewN n1)
      have HOX := Lib.hid (show (w2.drewN n1).ownsRow w1.heap.size 3 1 u i (ivs (sms x y i)) from HOU.out)
      generalize w2.drewN n1 = wx at *
      obtain ⟨m1, m2, m3, m4⟩ := sum_nums i n xi yi HI.out HL.out HBX.out.1 HBX.out.2
      have M1 := Lib.hid m1
      have M3 := Lib.hid m3
      have M4 := Lib.hid m4
      have SS := Lib.hid (sms_succ x y i)
      clear m1 m3 m4 hd1 hd2 hM hm1 hm2
      have HO2 := Lib.hid (show (wx.drew.alloc (.cells #[.int .i64 (xi + yi)] 3)).ownsRow w1.heap.size 3 1 u i (ivs (sms x y i)) from World.ownsRow.alloc (w := wx.drew) HOX.out _)
      go_wp2_with fail
      go_region_held3 (fun w' => w'.cell? ⟨b1, o1 + i, none⟩ = some (.int .i64 xi) ∧ w'.cell? ⟨b2, o2 + i, none⟩ = some (.int .i64 yi))
        (first | go_keep | (exact HQ6.out))
        (first
          | (refine step_app (wx.drew.alloc (.cells #[.int .i64 (xi + yi)] 3)) rfl (.tmp 62) (.tmp 72) 22 rfl w1.heap.size 3 (.int .i64 0) 1 8 Try.underlying22 info_int rfl (by decide) u i _ rfl HO2.out _ 1 1 [.int .i64 (xi + yi)] rfl (src_one wx.drew _ _ rfl) M3.out M4.out (by have := HKX.out.size; simp; omega) ?_; intro v6 w6 o6 g6 n6; have k6 : Kept Nix w1 w6 := (HKX.out.drew.alloc _).grown g6 (fun kk hkk => .inr (HO2.out.lt kk hkk).1); have HQ6 := Lib.hid (CL.out _ k6); have K6 := Lib.hid k6; have O6 := Lib.hid o6; clear k6 o6 g6 n6))
      all_goals
        go_wp2_with fail
        rw [M1.out]
        refine ⟨⟨rfl, rfl, rfl, rfl, rfl, rfl, i + 1, HI.out, rfl, ?_, ?_, v6, rfl, ?_, K6.out⟩, nearer HI.out rfl⟩
        · intro j hj
          by_cases hji : j < i
          · exact HLX.out j hji
          · rw [show j = i by omega, HXI.out]; exact HBX.out.1
        · intro j hj
          by_cases hji : j < i
          · exact HLY.out j hji
          · rw [show j = i by omega, HYI.out]; exact HBX.out.2
        · rw [SS.out, ivs_append, HXI.out, HYI.out]
          exact O6.out
    · have hdd : decide (i < n) = false := decide_eq_false hlt
      have hie : i = n := by omega
      subst hie
      have BX := Lib.hid (low_bd HLX.out HN.out)
      have BY := Lib.hid (low_bd HLY.out HXY.out)
      have BZ := Lib.hid (sms_bd HLX.out HLY.out)
      obtain ⟨m, hmn, LA, LB, LC, hC⟩ := res_sms x y i k HN.out HXY.out
      have EA := Lib.hid (show resE x.length (k : Int) = resE i (k : Int) by rw [HN.out])
      have EB := Lib.hid (show resE y.length (k : Int) = resE i (k : Int) by rw [HXY.out])
      have EC := Lib.hid (show resE (sms x y i).length (k : Int) = resE i (k : Int) by rw [sms_length])
      have HLA := Lib.hid LA
      have HLB := Lib.hid LB
      have HLC := Lib.hid LC
      have HCC := Lib.hid hC
      have HM := Lib.hid (show m ≤ 60 by have := HL.out; omega)
      have hL := HL.out
      have R1 := Lib.hid (res_any _ x (k : Int) w2 (HX.out.nix (nix_trans K1.out HKP.out)) (by rw [HN.out]; omega) BX.out)
      have RY := Lib.hid (show ∀ w', Kept Nix w w' → Calls Try.prog 11 #[.slice yo i ycap, .int .i64 (k : Int)] w' (ResPost y (k : Int) w') from fun w' hk' => by
        have h := HY.out.nix hk'
        rw [HXY.out] at h
        exact res_any _ y (k : Int) w' h (by rw [HXY.out]; omega) BY.out)
      have RZ := Lib.hid (show ∀ w', Kept Nix w2 w' → Calls Try.prog 11 #[u, .int .i64 (k : Int)] w' (ResPost (sms x y i) (k : Int) w') from fun w' hk' => res_any _ (sms x y i) (k : Int) w' ((sl_of_owns HOU.out).nix hk') (by rw [sms_length]; omega) BZ.out)
      have HBC := Lib.hid (resL_bd HK4.out BZ.out)
      clear hlt hi hmn LA LB LC hC hL
      generalize resE i (k : Int) = E at *
      have hEE : (E != E) = false := bne_self_eq_false _
      have hmm : ((m : Int) != (m : Int)) = false := bne_self_eq_false _
      generalize hrx : resL x (k : Int) = A at *
      generalize hry : resL y (k : Int) = B at *
      generalize hrz : resL (sms x y i) (k : Int) = C at *
      have HRX := Lib.hid hrx
      have HRY := Lib.hid hry
      have HRZ := Lib.hid hrz
      clear hrx hry hrz
      go_upto_region 17 with (first
        | (go_at_call 11; refine R1.out.mono ?_; rintro e w3 ⟨u3, rfl, ho3, hk3⟩; rw [EA.out]; rw [HRX.out, HLA.out] at ho3; have HO3 := Lib.hid ho3; have K3 := Lib.hid hk3; obtain ⟨ao3, cap3, rfl, _, _⟩ := owns_shape ho3; clear ho3 hk3 R1)
        | (go_at_call 11; refine (RY.out _ (nix_trans (nix_trans K1.out HKP.out) K3.out)).mono ?_; rintro e w4 ⟨u4, rfl, ho4, hk4⟩; rw [EB.out]; rw [HRY.out, HLB.out] at ho4; have HO4 := Lib.hid ho4; have K4 := Lib.hid (nix_trans K3.out hk4); have HP3 := Lib.hid (hk4.owns HO3.out (fun _ _ h => h)); obtain ⟨ao4, cap4, rfl, _, _⟩ := owns_shape ho4; clear ho4 hk4 RY)
        | (go_at_call 11; refine (RZ.out _ K4.out).mono ?_; rintro e w5 ⟨u5, rfl, ho5, hk5⟩; rw [EC.out]; rw [HRZ.out, HLC.out] at ho5; have HO5 := Lib.hid ho5; have K5 := Lib.hid (nix_trans K4.out hk5); have HQ3 := Lib.hid (hk5.owns HP3.out (fun _ _ h => h)); have HQ4 := Lib.hid (hk5.owns HO4.out (fun _ _ h => h)); obtain ⟨ao5, cap5, rfl, _, _⟩ := owns_shape ho5; clear ho5 hk5))
      clear HO3 HP3 HO4 hEE hmm hdd
      go_upto_region 18 with fail
      refine wp_loop (SumB (.slice ao3 m cap3) (.slice ao4 m cap4) (.slice ao5 m cap5) m w5) (fun ac _ => m - (intOf (ac.tmps.getD 17 undef)).toNat) ?_ ?_
      · exact ⟨rfl, rfl, rfl, rfl, rfl, rfl, 0, Nat.zero_le _, rfl, 0, rfl⟩
      · rintro ⟨tm, df⟩ w6 ⟨rfl, hs, h7, h11, h13, h15, j, hj, h17, q, rfl⟩
        simp only at hs h7 h11 h13 h15 h17
        obtain ⟨f2, hf, hg⟩ := fr_open hs
        have e7 := hg _ _ h7
        have e11 := hg _ _ h11
        have e13 := hg _ _ h13
        have e15 := hg _ _ h15
        have e17 := hg _ _ h17
        simp only [List.range, List.range.loop, List.map] at hf
        rw [e7, e11, e13, e15, e17] at hf
        clear e7 e11 e13 e15 e17 hg hs h7 h11 h13 h15 h17
        subst hf
        by_cases hlt : j < m
        · obtain ⟨g3, c3, e3, _, _, _, _⟩ := owns_pos HQ3.out (by omega)
          obtain ⟨g4, c4, e4, _, _, _, _⟩ := owns_pos HQ4.out (by omega)
          obtain ⟨g5, c5, e5, _, _, _, _⟩ := owns_pos HO5.out (by omega)
          simp only [Value.slice.injEq, true_and] at e3 e4 e5
          obtain ⟨rfl, rfl⟩ := e3
          obtain ⟨rfl, rfl⟩ := e4
          obtain ⟨rfl, rfl⟩ := e5
          have c1 : w5.cell? ⟨g3, j, none⟩ = some (.int .i64 (A.getD j 0)) := by rw [HQ3.out.cellAt j (by omega), ivs_get _ _ (by rw [HLA.out]; exact hlt)]
          have c2 : w5.cell? ⟨g4, j, none⟩ = some (.int .i64 (B.getD j 0)) := by rw [HQ4.out.cellAt j (by omega), ivs_get _ _ (by rw [HLB.out]; exact hlt)]
          have c3 : w5.cell? ⟨g5, j, none⟩ = some (.int .i64 (C.getD j 0)) := by rw [HO5.out.cellAt j (by omega), ivs_get _ _ (by rw [HLC.out]; exact hlt)]
          have hj1 : (j : Int) < (m : Int) := by omega
          have hdd : decide (j < m) = true := decide_eq_true hlt
          have HJ := Lib.hid hlt
          obtain ⟨q1, q2⟩ := sum_wraps A B C j m hlt HM.out (HCC.out j hlt) HBC.out
          have Q2 := Lib.hid q2
          clear hlt hj q2
          generalize A.getD j 0 = aj at *
          generalize B.getD j 0 = bj at *
          generalize C.getD j 0 = cj at *
          have hcc : (cj != cj) = false := bne_self_eq_false _
          go_wp2
          go_quiet (fail)
          go_wp2
          rw [Q2.out]
          exact ⟨⟨rfl, rfl, rfl, rfl, rfl, rfl, j + 1, HJ.out, rfl, _, rfl⟩, nearer HJ.out rfl⟩
        · have hdd : decide (j < m) = false := decide_eq_false hlt
          clear hlt hj
          go_wp2
          go_ret
          exact ⟨rfl, (nix_trans (nix_trans K1.out HKP.out) K5.out).drewN _⟩

end Go.Proofs.Ytoobnanbhniolaa
