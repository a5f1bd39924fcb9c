/- Package parts: Best. The reference's Cuts. -/
import Derived.Test.YtlbnjclchmnomaaPk21
import Derived.Test.YtlbnjclchmnomaaPk22
import Derived.Test.YtlbnjclchmnomaaPk13
import Derived.Test.YtlbnjclchmnomaaPk14

namespace Go.Proofs.Ytlbnjclchmnomaa
open Go.RowKit Bx

/-- What is wrong. -/
def pbE (L : List Int) (order most : Int) : Int := if order < 0 ∨ 32 < order ∨ most < 0 ∨ 8 < most then 1 else if L.length = 0 then 2 else if nrs L = false then 6 else 0
/-- The plan, and how many bits it has. -/
def pbW (L : List Int) (order most : Int) (wide : Bool) : Bool := if pbE L order most = 0 then bsW L order.toNat most.toNat wide else false
def pbO (L : List Int) (order most : Int) (wide : Bool) : Int := if pbE L order most = 0 then (bsO L order.toNat most.toNat wide : Int) else 0
def pbP (L : List Int) (order most : Int) (wide : Bool) : List (Int × Bool) := if pbE L order most = 0 then plP L order.toNat (bsW L order.toNat most.toNat wide) (bsO L order.toNat most.toNat wide) else []
def pbN (L : List Int) (order most : Int) (wide : Bool) : Int := if pbE L order most = 0 then (plN L order.toNat (bsW L order.toNat most.toNat wide) (bsO L order.toNat most.toNat wide) : Int) else 0

def PBPost (L : List Int) (order most : Int) (wide : Bool) (w : World) (e : Ending) (w' : World) : Prop :=
  ∃ u, e = .returned (.tuple #[.agg #[.bool (pbW L order most wide), .int .i64 (pbO L order most wide), u], .int .i64 (pbN L order most wide), .int .i64 (pbE L order most)]) ∧
    w'.ownsRow w.heap.size 50 2 u (pbP L order most wide).length (pcs (pbP L order most wide)) ∧ Kept Nix w w'

theorem pb_bad {L : List Int} {order most E : Int} (h : pbE L order most = E) (h0 : ¬ E = 0) (wide : Bool) {w w' : World} (hk : Kept Nix w w') : PBPost L order most wide w (.returned (.tuple #[.agg #[.bool false, .int .i64 0, .slice none 0 0], .int .i64 0, .int .i64 E])) w' := by
  have hE : ¬ pbE L order most = 0 := by rw [h]; exact h0
  refine ⟨.slice none 0 0, ?_, ?_, hk⟩
  · unfold pbW pbO pbN
    rw [if_neg hE, if_neg hE, if_neg hE, h]
  · unfold pbP
    rw [if_neg hE]
    exact World.ownsRow_nil _ _ _ _

theorem pb_good {L : List Int} {k m : Nat} (hk : k ≤ 32) (hm : m ≤ 8) (h0 : 0 < L.length) (hn : nrs L = true) : pbE L (k : Int) (m : Int) = 0 := by
  unfold pbE
  rw [if_neg (by omega), if_neg (by omega), if_neg (by rw [hn]; simp)]

theorem pb_test {k m : Int} (h : k < 0 ∨ 32 < k ∨ m < 0 ∨ 8 < m) : decide (k < 0) = true ∨ (decide (k < 0) = false ∧ decide (32 < k) = true) ∨ (decide (k < 0) = false ∧ decide (32 < k) = false ∧ decide (m < 0) = true) ∨ (decide (k < 0) = false ∧ decide (32 < k) = false ∧ decide (m < 0) = false ∧ decide (8 < m) = true) := by
  simp only [decide_eq_true_eq, decide_eq_false_iff_not]
  omega

theorem plan_start (w : World) : ∀ w', w' = w.alloc (.cells #[.bool false, .int .i64 0, .slice none 0 0] 25) → w'.heap[w.heap.size]? = some (.cells #[.bool false, .int .i64 0, .slice none 0 0] 25 (0, 0)) ∧ Kept Nix w w' := by
  rintro w' rfl
  exact ⟨heap_alloc_new _ _, (Kept.refl _ w).alloc _⟩

theorem keep_row_part {w : World} {base g n : Nat} {cs : Array Value} {v : Value} {xs : List Value} (hg : w.heap[g]? = some (.cells cs 25 (0, 0))) (ho : w.ownsRow base 50 2 v n xs) (cs' : Array Value) : (w.setRow g cs').ownsRow base 50 2 v n xs := by
  refine ((Kept.refl (One g) w).setRow (.inl rfl) cs').owns ho (fun kk hkk he => ?_)
  have h : kk = g := he
  subst h
  obtain ⟨cc, hcc⟩ := owns_type2 ho hkk
  rw [hg] at hcc
  simp at hcc

theorem wM_mono (w : Bool) : 14 ≤ wM w := by cases w <;> decide

set_option maxRecDepth 10000 in
set_option maxHeartbeats 4000000 in
theorem pbest_any (v : Value) (L : List Int) (order most : Int) (wide : Bool) (w : World) (hv : Sl w v (ivs L)) (hl : L.length ≤ 1048576) :
    Calls Try.prog 18 #[v, .int .i64 order, .int .i64 most, .bool wide] w (PBPost L order most wide w) := by
  obtain ⟨ao, ca, rfl, -⟩ := hv.ints
  obtain ⟨h8, k1⟩ := plan_start w _ rfl
  have H8 := Lib.hid h8
  have K1 := Lib.hid k1
  have WD := Lib.hid (cwidth_any _ L _ (hv.nix k1))
  by_cases harg : order < 0 ∨ 32 < order ∨ most < 0 ∨ 8 < most
  · have HP := Lib.hid (fun w' (h : Kept Nix w w') => pb_bad (E := 1) (show pbE L order most = 1 by unfold pbE; rw [if_pos harg]) (by decide) wide h)
    clear hv hl h8 k1 WD
    rcases pb_test harg with t1 | ⟨t1, t2⟩ | ⟨t1, t2, t3⟩ | ⟨t1, t2, t3, t4⟩
    all_goals
      clear harg
      go_enter Try.func18, Try.ntmps18
      go_upto_region 1 with fail
      generalize w.alloc (.cells #[.bool false, .int .i64 0, .slice none 0 0] 25) = w1 at *
      go_wp2_with (refine wpList_store_row rfl 25 _ _ rfl _ _ rfl rfl 25 _ H8.out size_plan rfl (one_plan _ _ _ _ _) ?_)
      exact bodyPost_ret (results_plan2 rfl _ _ w.heap.size _ 0 1 rfl (heap_row _ H8.out) rfl rfl rfl) rfl (HP.out _ (K1.out.setRow (.inr (Nat.le_refl _)) _))
  obtain ⟨k, rfl⟩ : ∃ k : Nat, order = (k : Int) := ⟨order.toNat, by omega⟩
  obtain ⟨m, rfl⟩ : ∃ m : Nat, most = (m : Int) := ⟨most.toNat, by omega⟩
  have t1 : decide ((k : Int) < 0) = false := decide_eq_false (by omega)
  have t2 : decide (32 < (k : Int)) = false := decide_eq_false (by omega)
  have t3 : decide ((m : Int) < 0) = false := decide_eq_false (by omega)
  have t4 : decide (8 < (m : Int)) = false := decide_eq_false (by omega)
  by_cases h0 : L.length = 0
  · have HP := Lib.hid (fun w' (h : Kept Nix w w') => pb_bad (E := 2) (show pbE L (k : Int) (m : Int) = 2 by unfold pbE; rw [if_neg harg, if_pos h0]) (by decide) wide h)
    have t5 : ((L.length : Int) == 0) = true := by simp [h0]
    clear hv hl h8 k1 WD harg h0
    generalize L.length = l at *
    go_enter Try.func18, Try.ntmps18
    go_upto_region 1 with fail
    generalize w.alloc (.cells #[.bool false, .int .i64 0, .slice none 0 0] 25) = w1 at *
    go_wp2_with (refine wpList_store_row rfl 25 _ _ rfl _ _ rfl rfl 25 _ H8.out size_plan rfl (one_plan _ _ _ _ _) ?_)
    exact bodyPost_ret (results_plan2 rfl _ _ w.heap.size _ 0 2 rfl (heap_row _ H8.out) rfl rfl rfl) rfl (HP.out _ (K1.out.setRow (.inr (Nat.le_refl _)) _))
  have t5 : ((L.length : Int) == 0) = false := by rw [beq_eq_false_iff_ne]; omega
  cases hn : nrs L with
  | false =>
    have HP := Lib.hid (fun w' (h : Kept Nix w w') => pb_bad (E := 6) (show pbE L (k : Int) (m : Int) = 6 by unfold pbE; rw [if_neg harg, if_neg h0, if_pos hn]) (by decide) wide h)
    have e1 : cwid L = -1 := by unfold cwid; rw [hn]; rfl
    rw [e1] at WD
    clear hv hl h8 k1 harg h0 hn e1
    generalize L.length = l at *
    go_enter Try.func18, Try.ntmps18
    go_upto_region 1 with fail
    generalize w.alloc (.cells #[.bool false, .int .i64 0, .slice none 0 0] 25) = w1 at *
    go_wp2_with (first
      | (go_at_call 36; refine WD.out.mono ?_; rintro e w2 ⟨rfl, rfl⟩; clear WD)
      | (refine wpList_store_row rfl 25 _ _ rfl _ _ rfl rfl 25 _ H8.out size_plan rfl (one_plan _ _ _ _ _) ?_))
    exact bodyPost_ret (results_plan2 rfl _ _ w.heap.size _ 0 6 rfl (heap_row _ H8.out) rfl rfl rfl) rfl (HP.out _ (K1.out.setRow (.inr (Nat.le_refl _)) _))
  | true =>
    have e1 : cwid L = (cw L : Int) := by unfold cwid; rw [hn]; rfl
    rw [e1] at WD
    have t6 : decide (((cw L : Nat) : Int) < 0) = false := decide_eq_false (by omega)
    have hF := fin_ok (k := k) (show 0 < L.length by omega) m
    obtain ⟨F, hFF⟩ : ∃ F, fin L.length k m = F := ⟨_, rfl⟩
    have FI := Lib.hid (fun w' => finest_any L.length k m w' (by omega) hl (by omega) (by omega))
    rw [hFF] at hF FI
    have CU := Lib.hid (fun w' => pcuts_any L.length (k : Int) (F : Int) w' hl (by omega))
    unfold CutsPost at CU
    rw [ctI_nat] at CU
    have SU := Lib.hid (fun vc w' (h : Kept Nix w w') hc => sumsof_any _ vc L (cts L.length k F) (wM wide) w' (hv.nix h) hc (cts_sum_le _ _ _) hl (fine_plS hn hl k F) (wM_le wide))
    rw [show pcz L (cts L.length k F) = plS L k F from rfl] at SU
    have BO := Lib.hid (fun wd v1 v2 v3 K w' hS hT (hm : wM wd ≤ wM wide) => border_any v1 v2 v3 L k F K (wM wide) wd w' hS hT hn hl (wM_le wide) hm hF)
    have KS := Lib.hid (ks_any wide)
    have HGD := Lib.hid (pb_good (L := L) (k := k) (m := m) (by omega) (by omega) (by omega) hn)
    have HFF := Lib.hid hFF
    clear hv hl h8 k1 harg h0 hn e1 hF hFF
    generalize hC : cts L.length k F = C at *
    clear hC
    generalize hll : L.length = l at *
    have HLL := Lib.hid hll
    clear hll
    generalize cw L = c at *
    go_enter Try.func18, Try.ntmps18
    go_upto_region 1 with fail
    generalize w.alloc (.cells #[.bool false, .int .i64 0, .slice none 0 0] 25) = w1 at *
    go_upto_region 8 with (first
      | (go_at_call 36; refine WD.out.mono ?_; rintro e w2 ⟨rfl, rfl⟩; clear WD)
      | (go_at_call 37; refine (FI.out _).mono ?_; rintro e w3 ⟨rfl, k3⟩; have K3 := Lib.hid k3; clear k3 FI))
    clear t1 t2 t3 t4 t5 t6
    go_upto_region 9 with (go_at_call 29; refine (KS.out _).mono ?_; rintro e w4 ⟨rfl, rfl⟩; clear KS)
    have C4 := Lib.hid (CU.out w4)
    go_upto_region 10 with (first
      | (go_at_call 23; refine C4.out.mono ?_; rintro e w5 ⟨u5, rfl, o5, k5⟩; have K5 := Lib.hid (nix_trans K3.out k5); have S5 := Lib.hid (SU.out u5 w5 (nix_trans K1.out K5.out) (sl_of_owns o5)); obtain ⟨uo, uc, rfl, -⟩ := owns_shape o5; clear o5 k5 C4 SU CU)
      | (go_at_call 38; refine S5.out.mono ?_; rintro e w6 ⟨v1, v2, v3, K, rfl, ss, st, k6⟩; have SS := Lib.hid ss; have ST := Lib.hid st; have K6 := Lib.hid (nix_trans K5.out k6); obtain ⟨a1, c1, hq1, -⟩ := ss.many.ints; obtain ⟨a2, c2, hq2, -⟩ := ss.widths.ints; obtain ⟨a3, c3, hq3, -⟩ := ss.bits.open; subst hq1 hq2 hq3; simp only [rws_length, ni_length, List.length_map] at *; clear ss st k6 S5))
    generalize hnp : (plS L k F).length = np at *
    have H14 := Lib.hid (heap_alloc_new w6 (.cells #[.slice a1 np c1, .slice a2 np c2, .slice a3 K c3] 79))
    have K7 := Lib.hid (nix_trans K6.out ((Kept.refl Nix w6).alloc (.cells #[.slice a1 np c1, .slice a2 np c2, .slice a3 K c3] 79)))
    have S7 := Lib.hid (SS.out.nix ((Kept.refl Nix w6).alloc (.cells #[.slice a1 np c1, .slice a2 np c2, .slice a3 K c3] 79)))
    clear hnp SS K3 K5 K6
    generalize w6.alloc (.cells #[.slice a1 np c1, .slice a2 np c2, .slice a3 K c3] 79) = w7 at *
    generalize w6.heap.size = g14 at *
    have B1 := Lib.hid (BO.out false _ _ _ K w7 S7.out ST.out (wM_mono wide))
    unfold OrdPost at B1
    generalize hA : upA (plN L k false) F = A at *
    have HA := Lib.hid hA
    clear hA
    go_upto_region 11 with (first
      | (refine wpList_load_row rfl 79 _ rfl g14 rfl 79 _ (0, 0) _ H14.out Try.underlying79 rfl size_sums ?_)
      | (go_at_call 39; refine B1.out.mono ?_; rintro e w8 ⟨u1, rfl, o1, k8⟩; have O1 := Lib.hid o1; have K8 := Lib.hid k8; obtain ⟨u1o, u1c, rfl, -⟩ := owns_shape o1; clear o1 k8 B1))
    have H15 := Lib.hid (heap_alloc_new w8 (.cells #[.bool false, .int .i64 (A : Int), .slice u1o (plP L k false A).length u1c] 25))
    have K9 := Lib.hid (nix_trans K8.out ((Kept.refl Nix w8).alloc (.cells #[.bool false, .int .i64 (A : Int), .slice u1o (plP L k false A).length u1c] 25)))
    have O9 := Lib.hid (owns_base (O1.out.alloc (.cells #[.bool false, .int .i64 (A : Int), .slice u1o (plP L k false A).length u1c] 25)) (nix_trans K1.out K7.out).size)
    have HK8 := Lib.hid K8.out.size
    clear O1 K8
    generalize w8.alloc (.cells #[.bool false, .int .i64 (A : Int), .slice u1o (plP L k false A).length u1c] 25) = w9 at *
    have HG15 := Lib.hid (show w.heap.size < w8.heap.size from Nat.lt_of_lt_of_le (Array.getElem?_eq_some_iff.1 H8.out).1 (Nat.le_trans K7.out.size HK8.out))
    generalize w8.heap.size = g15 at *
    have HPO := Lib.hid (show ∀ wd o, bsW L k m wide = wd → bsO L k m wide = o → pbW L (k : Int) (m : Int) wide = wd ∧ pbO L (k : Int) (m : Int) wide = (o : Int) ∧ pbP L (k : Int) (m : Int) wide = plP L k wd o ∧ pbN L (k : Int) (m : Int) wide = (plN L k wd o : Int) from fun wd o h1 h2 => by
      unfold pbW pbO pbP pbN
      rw [if_pos HGD.out, if_pos HGD.out, if_pos HGD.out, if_pos HGD.out]
      simp only [Int.toNat_natCast]
      rw [h1, h2]
      exact ⟨rfl, rfl, rfl, rfl⟩)
    have H89 := Lib.hid ((nix_trans K7.out K9.out).heap H8.out id)
    have KW9 := Lib.hid (nix_trans K1.out (nix_trans K7.out K9.out))
    cases wide with
    | false =>
      have hW : bsW L k m false = false := rfl
      have hO : bsO L k m false = A := by unfold bsO; rw [hW, HLL.out, HFF.out, HA.out]
      obtain ⟨q1, q2, q3, q4⟩ := HPO.out false A hW hO
      have Q := Lib.hid (And.intro q1 (And.intro q2 (And.intro q3 q4)))
      clear hW hO q1 q2 q3 q4 HPO BO
      generalize plN L k false A = nA at *
      go_wp2_with (first
        | (refine wpList_load_row rfl 25 _ rfl g15 rfl 25 _ (0, 0) _ H15.out Try.underlying25 rfl size_plan ?_)
        | (refine wpList_store_row rfl 25 _ _ rfl _ _ rfl rfl 25 _ H89.out size_plan rfl (one_plan _ _ _ _ _) ?_))
      refine bodyPost_ret (results_plan2 rfl _ _ w.heap.size _ (nA : Int) 0 rfl (heap_row _ H89.out) rfl rfl rfl) rfl ⟨_, by rw [Q.out.1, Q.out.2.1, Q.out.2.2.2, HGD.out], ?_, KW9.out.setRow (.inr (Nat.le_refl _)) _⟩
      rw [Q.out.2.2.1]
      exact keep_row_part H89.out O9.out _
    | true =>
      have H149 := Lib.hid (K9.out.heap H14.out id)
      have B2 := Lib.hid (BO.out true _ _ _ K w9 (S7.out.nix K9.out) ST.out (Nat.le_refl _))
      unfold OrdPost at B2
      generalize hB : upA (plN L k true) F = B at *
      have HB := Lib.hid hB
      clear hB BO S7 ST
      go_upto_region 13 with (first
        | (refine wpList_load_row rfl 79 _ rfl g14 rfl 79 _ (0, 0) _ H149.out Try.underlying79 rfl size_sums ?_)
        | (go_at_call 39; refine B2.out.mono ?_; rintro e w10 ⟨u2, rfl, o2, k10⟩; have O2 := Lib.hid o2; have K10 := Lib.hid k10; obtain ⟨u2o, u2c, rfl, -⟩ := owns_shape o2; clear o2 k10 B2))
      have H17 := Lib.hid (heap_alloc_new w10 (.cells #[.bool true, .int .i64 (B : Int), .slice u2o (plP L k true B).length u2c] 25))
      have K11 := Lib.hid (nix_trans K10.out ((Kept.refl Nix w10).alloc (.cells #[.bool true, .int .i64 (B : Int), .slice u2o (plP L k true B).length u2c] 25)))
      have O11 := Lib.hid (owns_base (O2.out.alloc (.cells #[.bool true, .int .i64 (B : Int), .slice u2o (plP L k true B).length u2c] 25)) KW9.out.size)
      clear O2 K10
      generalize w10.alloc (.cells #[.bool true, .int .i64 (B : Int), .slice u2o (plP L k true B).length u2c] 25) = w11 at *
      generalize w10.heap.size = g17 at *
      have H15' := Lib.hid (K11.out.heap H15.out id)
      have H8' := Lib.hid (K11.out.heap H89.out id)
      have O9' := Lib.hid (K11.out.owns O9.out (fun _ _ h => h))
      have KW := Lib.hid (nix_trans KW9.out K11.out)
      by_cases hlt : plN L k true B < plN L k false A
      · have t1 : decide (plN L k true B < plN L k false A) = true := decide_eq_true hlt
        have hW : bsW L k m true = true := by unfold bsW; rw [HLL.out, HFF.out, HA.out, HB.out, t1]; rfl
        have hO : bsO L k m true = B := by unfold bsO; rw [hW, HLL.out, HFF.out, HB.out]
        obtain ⟨q1, q2, q3, q4⟩ := HPO.out true B hW hO
        have Q := Lib.hid (And.intro q1 (And.intro q2 (And.intro q3 q4)))
        have HNE := Lib.hid (Nat.ne_of_lt HG15.out)
        clear hW hO q1 q2 q3 q4 HPO hlt
        generalize plN L k false A = nA at *
        generalize plN L k true B = nB at *
        go_wp2_with (first
          | (refine wpList_load_row rfl 25 _ rfl g15 rfl 25 _ (0, 0) _ (heap_row _ H15'.out) Try.underlying25 rfl size_plan ?_)
          | (refine wpList_load_row rfl 25 _ rfl g17 rfl 25 _ (0, 0) _ H17.out Try.underlying25 rfl size_plan ?_)
          | (refine wpList_store_row rfl 25 _ _ rfl _ _ rfl rfl 25 _ H15'.out size_plan rfl (one_plan _ _ _ _ _) ?_)
          | (refine wpList_store_row rfl 25 _ _ rfl _ _ rfl rfl 25 _ ((heap_row_other _ HNE.out).trans H8'.out) size_plan rfl (one_plan _ _ _ _ _) ?_))
        refine bodyPost_ret (results_plan2 rfl _ _ w.heap.size _ (nB : Int) 0 rfl (heap_row _ ((heap_row_other _ HNE.out).trans H8'.out)) rfl rfl rfl) rfl ⟨_, by rw [Q.out.1, Q.out.2.1, Q.out.2.2.2, HGD.out], ?_, (KW.out.setRow (.inr (Nat.le_of_lt HG15.out)) _).setRow (.inr (Nat.le_refl _)) _⟩
        rw [Q.out.2.2.1]
        exact keep_row_part ((heap_row_other _ HNE.out).trans H8'.out) (keep_row_part H15'.out O11.out _) _
      · have t1 : decide (plN L k true B < plN L k false A) = false := decide_eq_false hlt
        have hW : bsW L k m true = false := by unfold bsW; rw [HLL.out, HFF.out, HA.out, HB.out, t1]; rfl
        have hO : bsO L k m true = A := by unfold bsO; rw [hW, HLL.out, HFF.out, HA.out]
        obtain ⟨q1, q2, q3, q4⟩ := HPO.out false A hW hO
        have Q := Lib.hid (And.intro q1 (And.intro q2 (And.intro q3 q4)))
        clear hW hO q1 q2 q3 q4 HPO hlt
        generalize plN L k false A = nA at *
        generalize plN L k true B = nB at *
        go_wp2_with (first
          | (refine wpList_load_row rfl 25 _ rfl g15 rfl 25 _ (0, 0) _ H15'.out Try.underlying25 rfl size_plan ?_)
          | (refine wpList_store_row rfl 25 _ _ rfl _ _ rfl rfl 25 _ H8'.out size_plan rfl (one_plan _ _ _ _ _) ?_))
        refine bodyPost_ret (results_plan2 rfl _ _ w.heap.size _ (nA : Int) 0 rfl (heap_row _ H8'.out) rfl rfl rfl) rfl ⟨_, by rw [Q.out.1, Q.out.2.1, Q.out.2.2.2, HGD.out], ?_, KW.out.setRow (.inr (Nat.le_refl _)) _⟩
        rw [Q.out.2.2.1]
        exact keep_row_part H8'.out O9'.out _

end Go.Proofs.Ytlbnjclchmnomaa

namespace Go.Proofs.Ytlbnjclchmnomaa
open Go.RowKit Bx

def lenV : Value → Nat
  | .slice _ l _ => l
  | _ => 0

structure RcNums (n k o B p r s : Nat) : Prop where
  e1 : wrap64 ((n : Int) + (k : Int)) = (B : Int)
  e2 : (2 : Int) ^ o = (p : Int)
  e3 : (B : Int).tmod (p : Int) = (r : Int)
  e4 : (B : Int).tdiv (p : Int) = (s : Int)
  e5 : wrap64 (s : Int) = (s : Int)
  e7 : ¬ p = 0
  e8 : ∀ R : Nat, R = s - k → k < s → wrap64 ((s : Int) - (k : Int)) = (R : Int)
  pl : p ≤ 32768
  ok : cutOk n k o = (decide (r = 0) && decide (k < s))
  ct : cutOk n k o = true → cts n k o = (s - k) :: List.replicate (p - 1) s

theorem rc_nums (n k o : Nat) (hn : n ≤ 1048576) (hk : k ≤ 1048576) (ho : o ≤ 15) : ∃ B p r s, RcNums n k o B p r s := by
  have h1 : 2 ^ o ≤ 32768 := Nat.pow_le_pow_right (n := 2) (by decide) ho
  have h2 := Nat.two_pow_pos o
  have h3 : (n + k) / 2 ^ o ≤ n + k := Nat.div_le_self _ _
  refine ⟨n + k, 2 ^ o, (n + k) % 2 ^ o, (n + k) / 2 ^ o, ?_, by simp, ?_, ?_, ?_, by omega, ?_, h1, ?_, ?_⟩
  · rw [w64_in _ (by omega)]; omega
  · rw [Int.tmod_eq_emod_of_nonneg (by omega)]; exact (Int.natCast_emod _ _).symm
  · rw [Int.tdiv_eq_ediv_of_nonneg (by omega)]; exact (Int.natCast_ediv _ _).symm
  · exact small_i _ (by omega)
  · intro R hR hk
    rw [sub_int hR.symm hk]
    exact small_i _ (by omega)
  · unfold cutOk
    rw [decide_eq_true ho, Bool.true_and]
  · intro h
    unfold cts
    rw [if_pos h]

theorem rc_test {r s K : Nat} (h : false = (decide (r = 0) && decide (K < s))) : ((r : Int) != 0) = true ∨ (((r : Int) != 0) = false ∧ decide (s ≤ K) = true) := by
  by_cases h1 : r = 0
  · right
    rw [decide_eq_true h1, Bool.true_and] at h
    have := of_decide_eq_false h.symm
    exact ⟨by simp [h1], decide_eq_true (by omega)⟩
  · left
    exact bne_iff_ne.2 (by omega)

theorem rc_good {r s K : Nat} (h : true = (decide (r = 0) && decide (K < s))) : ((r : Int) != 0) = false ∧ decide (s ≤ K) = false ∧ K < s := by
  have h := h.symm
  simp only [Bool.and_eq_true, decide_eq_true_eq] at h
  exact ⟨by simp [h.1], decide_eq_false (by omega), h.2⟩

def RCutsInv (B p : Nat) (C : List Nat) (w : World) (a : Act) (w' : World) : Prop :=
  a.defers = [] ∧ a.tmps.size = 57 ∧ a.tmps[7]? = some (.int .i64 (B : Int)) ∧ a.tmps[8]? = some (.int .i64 (p : Int)) ∧
  ∃ i : Nat, 1 ≤ i ∧ i ≤ p ∧ ∃ uo uc, a.tmps[9]? = some (.slice uo i uc) ∧ w'.ownsRow w.heap.size 3 1 (.slice uo i uc) i (ivs (ni (C.take i))) ∧ Kept Nix w w'

theorem rc_take {R s p i : Nat} (h1 : 1 ≤ i) (h2 : i < p) : ni ((R :: List.replicate (p - 1) s).take (i + 1)) = ni ((R :: List.replicate (p - 1) s).take i) ++ [(s : Int)] := by
  obtain ⟨j, rfl⟩ : ∃ j, i = j + 1 := ⟨i - 1, by omega⟩
  simp only [List.take_succ_cons, List.take_replicate]
  rw [show min (j + 1) (p - 1) = j + 1 by omega, show min j (p - 1) = j by omega, List.replicate_succ']
  simp [ni]

set_option maxRecDepth 10000 in
set_option maxHeartbeats 2000000 in
theorem rcuts_any (n k o : Nat) (w : World) (hn : n ≤ 1048576) (hk : k ≤ 1048576) (ho : o ≤ 15) : Calls Try.prog 20 #[.int .i64 (n : Int), .int .i64 (k : Int), .int .i64 (o : Int)] w (CutsPost n (k : Int) (o : Int) w) := by
  have tn : decide ((n : Int) < 0) = false := decide_eq_false (by omega)
  have t1 : decide ((k : Int) < 0) = false := decide_eq_false (by omega)
  have t2 : decide ((o : Int) < 0) = false := decide_eq_false (by omega)
  have t3 : decide (15 < (o : Int)) = false := decide_eq_false (by omega)
  obtain ⟨B, p, r, s, hN⟩ := rc_nums n k o hn hk ho
  have HN := Lib.hid hN
  have PW := Lib.hid (rpower_any o (by omega) w)
  rw [hN.e2] at PW
  have e1 := hN.e1
  have e3 := hN.e3
  have e4 := hN.e4
  have e5 := hN.e5
  have e7 := hN.e7
  clear hN hn hk ho
  unfold CutsPost
  rw [ctI_nat]
  cases hc : cutOk n k o with
  | false =>
    rw [cts_none hc]
    have ht := rc_test (by have h := HN.out.ok; rw [hc] at h; exact h)
    clear hc
    rcases ht with t4 | ⟨t4, t5⟩
    all_goals
      go_enter Try.func20, Try.ntmps20
      go_wp2_with (go_at_call 40; refine PW.out.mono ?_; rintro e w1 ⟨rfl, rfl⟩; clear PW)
      go_ret
      exact ⟨_, rfl, World.ownsRow_nil _ _ _ _, Kept.refl _ _⟩
  | true =>
    obtain ⟨t4, t5, t6⟩ := rc_good (by have h := HN.out.ok; rw [hc] at h; exact h)
    have HC := Lib.hid (HN.out.ct hc)
    obtain ⟨R, hR⟩ : ∃ R, R = s - k := ⟨_, rfl⟩
    have e8 := HN.out.e8 R hR t6
    rw [← hR] at HC
    clear hc hR t6
    generalize cts n k o = C at *
    have HL := Lib.hid (show C.length = p by rw [HC.out]; simp; omega)
    have O1 := Lib.hid (lit_base w w.heap.size (Nat.le_refl _) [(R : Int)] 1 rfl (by decide))
    have K1 := Lib.hid (show Kept Nix w (w.alloc (.cells #[.int .i64 (R : Int)] 3)) from (Kept.refl _ _).alloc _)
    go_enter Try.func20, Try.ntmps20
    go_wp2_with (go_at_call 40; refine PW.out.mono ?_; rintro e w1 ⟨rfl, rfl⟩; clear PW)
    refine wp_loop (RCutsInv B p C w1) (fun a _ => p - lenV (a.tmps.getD 9 undef)) ?_ ?_
    · exact ⟨rfl, rfl, rfl, rfl, 1, Nat.le_refl _, by omega, _, _, rfl, by rw [HC.out]; exact O1.out, K1.out⟩
    · clear O1 K1 t1 t2 t3 tn e1 e8 t4 t5
      rintro ⟨tm, df⟩ w2 ⟨rfl, hs, g7', g8', i, hi1, hi, uo, uc, g9', ho, hk⟩
      simp only at hs g7' g8' g9'
      obtain ⟨f, hf, hg⟩ := fr_open hs
      have g7 := hg _ _ g7'
      have g8 := hg _ _ g8'
      have g9 := hg _ _ g9'
      simp only [List.range, List.range.loop, List.map] at hf
      rw [g7, g8, g9] at hf
      clear g7 g8 g9 hg hs g7' g8' g9'
      subst hf
      have HO := Lib.hid ho
      have HK := Lib.hid hk
      clear ho hk
      by_cases hlt : i < p
      · have hdd : decide (i < p) = true := decide_eq_true hlt
        have M3 := Lib.hid (show i + 1 ≤ maxLen by have := HN.out.pl; simp only [maxLen]; omega)
        have M4 := Lib.hid (show (i + 1) * 8 ≤ 140737488355328 by have := HN.out.pl; omega)
        have O5 := Lib.hid (HO.out.alloc (.cells #[.int .i64 (s : Int)] 3))
        have HBS := Lib.hid (show w1.heap.size ≤ (w2.alloc (.cells #[.int .i64 (s : Int)] 3)).heap.size from (HK.out.alloc _).size)
        have HM := Lib.hid (show p - (i + 1) < p - i by omega)
        have HT := Lib.hid (show ni (C.take (i + 1)) = ni (C.take i) ++ [(s : Int)] by rw [HC.out]; exact rc_take hi1 hlt)
        have HI := Lib.hid hlt
        have HI1 := Lib.hid hi1
        clear hlt hi hi1
        go_wp2_with (
          refine wpList_app _ rfl _ _ 22 rfl w1.heap.size 3 (.int .i64 0) 1 8 Try.underlying22 info_int rfl (by decide) _ _ _ rfl O5.out _ 1 1 [.int .i64 (s : Int)] rfl (src_one w2 _ _ rfl) M3.out M4.out HBS.out ?_
          intro v6 w6 o6 g6 n6; have k6 : Kept Nix w1 w6 := (HK.out.alloc _).grown g6 (fun kk hkk => .inr (O5.out.lt kk hkk).1); obtain ⟨vo, vc, rfl, -⟩ := owns_shape o6; have K6 := Lib.hid k6; have O6 := Lib.hid o6; clear k6 o6 g6 n6)
        refine ⟨⟨rfl, rfl, rfl, rfl, i + 1, by have := HI1.out; omega, HI.out, vo, vc, rfl, ?_, K6.out⟩, HM.out⟩
        rw [HT.out, ivs_append]
        exact O6.out
      · have hie : i = p := by omega
        subst hie
        have hdd : decide (i < i) = false := decide_eq_false hlt
        have HE := Lib.hid (show C.take i = C by rw [← HL.out, List.take_length])
        clear hlt hi hi1
        go_wp2
        go_ret
        refine ⟨_, rfl, ?_, HK.out⟩
        rw [HL.out, ← HE.out]
        exact HO.out

end Go.Proofs.Ytlbnjclchmnomaa
