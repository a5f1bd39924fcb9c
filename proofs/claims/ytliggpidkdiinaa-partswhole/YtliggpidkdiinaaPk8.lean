/- Package parts: Best. Package parts: Bits. The chapter's example of layer 14: the contract of awake. A window of a slice of integers: x[lo:hi]. The reference's Split. The reference's Cuts. A loop out of a function's body, by its first region's number. No program. -/
import Derived.Test.YtliggpidkdiinaaPk7
import Derived.Test.YtliggpidkdiinaaPk6
import Derived.Test.YtliggpidkdiinaaPk5
import Derived.Test.YtliggpidkdiinaaPk3
import Derived.Test.YtliggpidkdiinaaPk4
import Derived.Test.YtliggpidkdiinaaPk1

namespace Go.Proofs.Ytliggpidkdiinaa
open Go.RowKit Bx

/-- What is wrong. -/
def pbE (L : List Int) (order most : Int) : Int := if order < 0 ∨ 32 < order ∨ most < 0 ∨ 8 < most then 1 else if L.length = 0 then 2 else if nrs L = false then 6 else 0
/-- The plan, and how many bits it has. -/
def pbW (L : List Int) (order most : Int) (wide : Bool) : Bool := if pbE L order most = 0 then bsW L order.toNat most.toNat wide else false
def pbO (L : List Int) (order most : Int) (wide : Bool) : Int := if pbE L order most = 0 then (bsO L order.toNat most.toNat wide : Int) else 0
def pbP (L : List Int) (order most : Int) (wide : Bool) : List (Int × Bool) := if pbE L order most = 0 then plP L order.toNat (bsW L order.toNat most.toNat wide) (bsO L order.toNat most.toNat wide) else []
def pbN (L : List Int) (order most : Int) (wide : Bool) : Int := if pbE L order most = 0 then (plN L order.toNat (bsW L order.toNat most.toNat wide) (bsO L order.toNat most.toNat wide) : Int) else 0

def PBPost (L : List Int) (order most : Int) (wide : Bool) (w : World) (e : Ending) (w' : World) : Prop :=
  ∃ u, e = .returned (.tuple #[.agg #[.bool (pbW L order most wide), .int .i64 (pbO L order most wide), u], .int .i64 (pbN L order most wide), .int .i64 (pbE L order most)]) ∧
    w'.ownsRow w.heap.size 39 2 u (pbP L order most wide).length (pcs (pbP L order most wide)) ∧ Kept Nix w w'

theorem pb_bad {L : List Int} {order most E : Int} (h : pbE L order most = E) (h0 : ¬ E = 0) (wide : Bool) {w w' : World} (hk : Kept Nix w w') : PBPost L order most wide w (.returned (.tuple #[.agg #[.bool false, .int .i64 0, .slice none 0 0], .int .i64 0, .int .i64 E])) w' := by
  have hE : ¬ pbE L order most = 0 := by rw [h]; exact h0
  refine ⟨.slice none 0 0, ?_, ?_, hk⟩
  · unfold pbW pbO pbN
    rw [if_neg hE, if_neg hE, if_neg hE, h]
  · unfold pbP
    rw [if_neg hE]
    exact World.ownsRow_nil _ _ _ _

theorem pb_good {L : List Int} {k m : Nat} (hk : k ≤ 32) (hm : m ≤ 8) (h0 : 0 < L.length) (hn : nrs L = true) : pbE L (k : Int) (m : Int) = 0 := by
  unfold pbE
  rw [if_neg (by omega), if_neg (by omega), if_neg (by rw [hn]; simp)]

theorem pb_test {k m : Int} (h : k < 0 ∨ 32 < k ∨ m < 0 ∨ 8 < m) : decide (k < 0) = true ∨ (decide (k < 0) = false ∧ decide (32 < k) = true) ∨ (decide (k < 0) = false ∧ decide (32 < k) = false ∧ decide (m < 0) = true) ∨ (decide (k < 0) = false ∧ decide (32 < k) = false ∧ decide (m < 0) = false ∧ decide (8 < m) = true) := by
  simp only [decide_eq_true_eq, decide_eq_false_iff_not]
  omega

theorem plan_start (w : World) : ∀ w', w' = w.alloc (.cells #[.bool false, .int .i64 0, .slice none 0 0] 26) → w'.heap[w.heap.size]? = some (.cells #[.bool false, .int .i64 0, .slice none 0 0] 26 (0, 0)) ∧ Kept Nix w w' := by
  rintro w' rfl
  exact ⟨heap_alloc_new _ _, (Kept.refl _ w).alloc _⟩

theorem keep_row_part {w : World} {base g n : Nat} {cs : Array Value} {v : Value} {xs : List Value} (hg : w.heap[g]? = some (.cells cs 26 (0, 0))) (ho : w.ownsRow base 39 2 v n xs) (cs' : Array Value) : (w.setRow g cs').ownsRow base 39 2 v n xs := by
  refine ((Kept.refl (One g) w).setRow (.inl rfl) cs').owns ho (fun kk hkk he => ?_)
  have h : kk = g := he
  subst h
  obtain ⟨cc, hcc⟩ := owns_type2 ho hkk
  rw [hg] at hcc
  simp at hcc

theorem wM_mono (w : Bool) : 14 ≤ wM w := by cases w <;> decide

set_option maxRecDepth 10000 in
set_option maxHeartbeats 4000000 in
theorem pbest_any (v : Value) (L : List Int) (order most : Int) (wide : Bool) (w : World) (hv : Sl w v (ivs L)) (hl : L.length ≤ 1048576) :
    Calls Try.prog 9 #[v, .int .i64 order, .int .i64 most, .bool wide] w (PBPost L order most wide w) := by
  obtain ⟨ao, ca, rfl, -⟩ := hv.ints
  obtain ⟨h8, k1⟩ := plan_start w _ rfl
  have H8 := Lib.hid h8
  have K1 := Lib.hid k1
  have WD := Lib.hid (cwidth_any _ L _ (hv.nix k1))
  by_cases harg : order < 0 ∨ 32 < order ∨ most < 0 ∨ 8 < most
  · have HP := Lib.hid (fun w' (h : Kept Nix w w') => pb_bad (E := 1) (show pbE L order most = 1 by unfold pbE; rw [if_pos harg]) (by decide) wide h)
    clear hv hl h8 k1 WD
    rcases pb_test harg with t1 | ⟨t1, t2⟩ | ⟨t1, t2, t3⟩ | ⟨t1, t2, t3, t4⟩
    all_goals
      clear harg
      go_enter Try.func9, Try.ntmps9
      go_upto_region 1 with fail
      generalize w.alloc (.cells #[.bool false, .int .i64 0, .slice none 0 0] 26) = w1 at *
      go_wp2_with (refine wpList_store_row rfl 26 _ _ rfl _ _ rfl rfl 26 _ H8.out size_plan rfl (one_plan _ _ _ _ _) ?_)
      exact bodyPost_ret (results_plan2 rfl _ _ w.heap.size _ 0 1 rfl (heap_row _ H8.out) rfl rfl rfl) rfl (HP.out _ (K1.out.setRow (.inr (Nat.le_refl _)) _))
  obtain ⟨k, rfl⟩ : ∃ k : Nat, order = (k : Int) := ⟨order.toNat, by omega⟩
  obtain ⟨m, rfl⟩ : ∃ m : Nat, most = (m : Int) := ⟨most.toNat, by omega⟩
  have t1 : decide ((k : Int) < 0) = false := decide_eq_false (by omega)
  have t2 : decide (32 < (k : Int)) = false := decide_eq_false (by omega)
  have t3 : decide ((m : Int) < 0) = false := decide_eq_false (by omega)
  have t4 : decide (8 < (m : Int)) = false := decide_eq_false (by omega)
  by_cases h0 : L.length = 0
  · have HP := Lib.hid (fun w' (h : Kept Nix w w') => pb_bad (E := 2) (show pbE L (k : Int) (m : Int) = 2 by unfold pbE; rw [if_neg harg, if_pos h0]) (by decide) wide h)
    have t5 : ((L.length : Int) == 0) = true := by simp [h0]
    clear hv hl h8 k1 WD harg h0
    generalize L.length = l at *
    go_enter Try.func9, Try.ntmps9
    go_upto_region 1 with fail
    generalize w.alloc (.cells #[.bool false, .int .i64 0, .slice none 0 0] 26) = w1 at *
    go_wp2_with (refine wpList_store_row rfl 26 _ _ rfl _ _ rfl rfl 26 _ H8.out size_plan rfl (one_plan _ _ _ _ _) ?_)
    exact bodyPost_ret (results_plan2 rfl _ _ w.heap.size _ 0 2 rfl (heap_row _ H8.out) rfl rfl rfl) rfl (HP.out _ (K1.out.setRow (.inr (Nat.le_refl _)) _))
  have t5 : ((L.length : Int) == 0) = false := by rw [beq_eq_false_iff_ne]; omega
  cases hn : nrs L with
  | false =>
    have HP := Lib.hid (fun w' (h : Kept Nix w w') => pb_bad (E := 6) (show pbE L (k : Int) (m : Int) = 6 by unfold pbE; rw [if_neg harg, if_neg h0, if_pos hn]) (by decide) wide h)
    have e1 : cwid L = -1 := by unfold cwid; rw [hn]; rfl
    rw [e1] at WD
    clear hv hl h8 k1 harg h0 hn e1
    generalize L.length = l at *
    go_enter Try.func9, Try.ntmps9
    go_upto_region 1 with fail
    generalize w.alloc (.cells #[.bool false, .int .i64 0, .slice none 0 0] 26) = w1 at *
    go_wp2_with (first
      | (go_at_call 16; refine WD.out.mono ?_; rintro e w2 ⟨rfl, rfl⟩; clear WD)
      | (refine wpList_store_row rfl 26 _ _ rfl _ _ rfl rfl 26 _ H8.out size_plan rfl (one_plan _ _ _ _ _) ?_))
    exact bodyPost_ret (results_plan2 rfl _ _ w.heap.size _ 0 6 rfl (heap_row _ H8.out) rfl rfl rfl) rfl (HP.out _ (K1.out.setRow (.inr (Nat.le_refl _)) _))
  | true =>
    have e1 : cwid L = (cw L : Int) := by unfold cwid; rw [hn]; rfl
    rw [e1] at WD
    have t6 : decide (((cw L : Nat) : Int) < 0) = false := decide_eq_false (by omega)
    have hF := fin_ok (k := k) (show 0 < L.length by omega) m
    obtain ⟨F, hFF⟩ : ∃ F, fin L.length k m = F := ⟨_, rfl⟩
    have FI := Lib.hid (fun w' => finest_any L.length k m w' (by omega) hl (by omega) (by omega))
    rw [hFF] at hF FI
    have CU := Lib.hid (fun w' => pcuts_any L.length (k : Int) (F : Int) w' hl (by omega))
    unfold CutsPost at CU
    rw [ctI_nat] at CU
    have SU := Lib.hid (fun vc w' (h : Kept Nix w w') hc => sumsof_any _ vc L (cts L.length k F) (wM wide) w' (hv.nix h) hc (cts_sum_le _ _ _) hl (fine_plS hn hl k F) (wM_le wide))
    rw [show pcz L (cts L.length k F) = plS L k F from rfl] at SU
    have BO := Lib.hid (fun wd v1 v2 v3 K w' hS hT (hm : wM wd ≤ wM wide) => border_any v1 v2 v3 L k F K (wM wide) wd w' hS hT hn hl (wM_le wide) hm hF)
    have KS := Lib.hid (ks_any wide)
    have HGD := Lib.hid (pb_good (L := L) (k := k) (m := m) (by omega) (by omega) (by omega) hn)
    have HFF := Lib.hid hFF
    clear hv hl h8 k1 harg h0 hn e1 hF hFF
    generalize hC : cts L.length k F = C at *
    clear hC
    generalize hll : L.length = l at *
    have HLL := Lib.hid hll
    clear hll
    generalize cw L = c at *
    go_enter Try.func9, Try.ntmps9
    go_upto_region 1 with fail
    generalize w.alloc (.cells #[.bool false, .int .i64 0, .slice none 0 0] 26) = w1 at *
    go_upto_region 8 with (first
      | (go_at_call 16; refine WD.out.mono ?_; rintro e w2 ⟨rfl, rfl⟩; clear WD)
      | (go_at_call 17; refine (FI.out _).mono ?_; rintro e w3 ⟨rfl, k3⟩; have K3 := Lib.hid k3; clear k3 FI))
    clear t1 t2 t3 t4 t5 t6
    go_upto_region 9 with (go_at_call 18; refine (KS.out _).mono ?_; rintro e w4 ⟨rfl, rfl⟩; clear KS)
    have C4 := Lib.hid (CU.out w4)
    go_upto_region 10 with (first
      | (go_at_call 12; refine C4.out.mono ?_; rintro e w5 ⟨u5, rfl, o5, k5⟩; have K5 := Lib.hid (nix_trans K3.out k5); have S5 := Lib.hid (SU.out u5 w5 (nix_trans K1.out K5.out) (sl_of_owns o5)); obtain ⟨uo, uc, rfl, -⟩ := owns_shape o5; clear o5 k5 C4 SU CU)
      | (go_at_call 19; refine S5.out.mono ?_; rintro e w6 ⟨v1, v2, v3, K, rfl, ss, st, k6⟩; have SS := Lib.hid ss; have ST := Lib.hid st; have K6 := Lib.hid (nix_trans K5.out k6); obtain ⟨a1, c1, hq1, -⟩ := ss.many.ints; obtain ⟨a2, c2, hq2, -⟩ := ss.widths.ints; obtain ⟨a3, c3, hq3, -⟩ := ss.bits.open; subst hq1 hq2 hq3; simp only [rws_length, ni_length, List.length_map] at *; clear ss st k6 S5))
    generalize hnp : (plS L k F).length = np at *
    have H14 := Lib.hid (heap_alloc_new w6 (.cells #[.slice a1 np c1, .slice a2 np c2, .slice a3 K c3] 50))
    have K7 := Lib.hid (nix_trans K6.out ((Kept.refl Nix w6).alloc (.cells #[.slice a1 np c1, .slice a2 np c2, .slice a3 K c3] 50)))
    have S7 := Lib.hid (SS.out.nix ((Kept.refl Nix w6).alloc (.cells #[.slice a1 np c1, .slice a2 np c2, .slice a3 K c3] 50)))
    clear hnp SS K3 K5 K6
    generalize w6.alloc (.cells #[.slice a1 np c1, .slice a2 np c2, .slice a3 K c3] 50) = w7 at *
    generalize w6.heap.size = g14 at *
    have B1 := Lib.hid (BO.out false _ _ _ K w7 S7.out ST.out (wM_mono wide))
    unfold OrdPost at B1
    generalize hA : upA (plN L k false) F = A at *
    have HA := Lib.hid hA
    clear hA
    go_upto_region 11 with (first
      | (refine wpList_load_row rfl 50 _ rfl g14 rfl 50 _ (0, 0) _ H14.out Try.underlying50 rfl size_sums ?_)
      | (go_at_call 20; refine B1.out.mono ?_; rintro e w8 ⟨u1, rfl, o1, k8⟩; have O1 := Lib.hid o1; have K8 := Lib.hid k8; obtain ⟨u1o, u1c, rfl, -⟩ := owns_shape o1; clear o1 k8 B1))
    have H15 := Lib.hid (heap_alloc_new w8 (.cells #[.bool false, .int .i64 (A : Int), .slice u1o (plP L k false A).length u1c] 26))
    have K9 := Lib.hid (nix_trans K8.out ((Kept.refl Nix w8).alloc (.cells #[.bool false, .int .i64 (A : Int), .slice u1o (plP L k false A).length u1c] 26)))
    have O9 := Lib.hid (owns_base (O1.out.alloc (.cells #[.bool false, .int .i64 (A : Int), .slice u1o (plP L k false A).length u1c] 26)) (nix_trans K1.out K7.out).size)
    have HK8 := Lib.hid K8.out.size
    clear O1 K8
    generalize w8.alloc (.cells #[.bool false, .int .i64 (A : Int), .slice u1o (plP L k false A).length u1c] 26) = w9 at *
    have HG15 := Lib.hid (show w.heap.size < w8.heap.size from Nat.lt_of_lt_of_le (Array.getElem?_eq_some_iff.1 H8.out).1 (Nat.le_trans K7.out.size HK8.out))
    generalize w8.heap.size = g15 at *
    have HPO := Lib.hid (show ∀ wd o, bsW L k m wide = wd → bsO L k m wide = o → pbW L (k : Int) (m : Int) wide = wd ∧ pbO L (k : Int) (m : Int) wide = (o : Int) ∧ pbP L (k : Int) (m : Int) wide = plP L k wd o ∧ pbN L (k : Int) (m : Int) wide = (plN L k wd o : Int) from fun wd o h1 h2 => by
      unfold pbW pbO pbP pbN
      rw [if_pos HGD.out, if_pos HGD.out, if_pos HGD.out, if_pos HGD.out]
      simp only [Int.toNat_natCast]
      rw [h1, h2]
      exact ⟨rfl, rfl, rfl, rfl⟩)
    have H89 := Lib.hid ((nix_trans K7.out K9.out).heap H8.out id)
    have KW9 := Lib.hid (nix_trans K1.out (nix_trans K7.out K9.out))
    cases wide with
    | false =>
      have hW : bsW L k m false = false := rfl
      have hO : bsO L k m false = A := by unfold bsO; rw [hW, HLL.out, HFF.out, HA.out]
      obtain ⟨q1, q2, q3, q4⟩ := HPO.out false A hW hO
      have Q := Lib.hid (And.intro q1 (And.intro q2 (And.intro q3 q4)))
      clear hW hO q1 q2 q3 q4 HPO BO
      generalize plN L k false A = nA at *
      go_wp2_with (first
        | (refine wpList_load_row rfl 26 _ rfl g15 rfl 26 _ (0, 0) _ H15.out Try.underlying26 rfl size_plan ?_)
        | (refine wpList_store_row rfl 26 _ _ rfl _ _ rfl rfl 26 _ H89.out size_plan rfl (one_plan _ _ _ _ _) ?_))
      refine bodyPost_ret (results_plan2 rfl _ _ w.heap.size _ (nA : Int) 0 rfl (heap_row _ H89.out) rfl rfl rfl) rfl ⟨_, by rw [Q.out.1, Q.out.2.1, Q.out.2.2.2, HGD.out], ?_, KW9.out.setRow (.inr (Nat.le_refl _)) _⟩
      rw [Q.out.2.2.1]
      exact keep_row_part H89.out O9.out _
    | true =>
      have H149 := Lib.hid (K9.out.heap H14.out id)
      have B2 := Lib.hid (BO.out true _ _ _ K w9 (S7.out.nix K9.out) ST.out (Nat.le_refl _))
      unfold OrdPost at B2
      generalize hB : upA (plN L k true) F = B at *
      have HB := Lib.hid hB
      clear hB BO S7 ST
      go_upto_region 13 with (first
        | (refine wpList_load_row rfl 50 _ rfl g14 rfl 50 _ (0, 0) _ H149.out Try.underlying50 rfl size_sums ?_)
        | (go_at_call 20; refine B2.out.mono ?_; rintro e w10 ⟨u2, rfl, o2, k10⟩; have O2 := Lib.hid o2; have K10 := Lib.hid k10; obtain ⟨u2o, u2c, rfl, -⟩ := owns_shape o2; clear o2 k10 B2))
      have H17 := Lib.hid (heap_alloc_new w10 (.cells #[.bool true, .int .i64 (B : Int), .slice u2o (plP L k true B).length u2c] 26))
      have K11 := Lib.hid (nix_trans K10.out ((Kept.refl Nix w10).alloc (.cells #[.bool true, .int .i64 (B : Int), .slice u2o (plP L k true B).length u2c] 26)))
      have O11 := Lib.hid (owns_base (O2.out.alloc (.cells #[.bool true, .int .i64 (B : Int), .slice u2o (plP L k true B).length u2c] 26)) KW9.out.size)
      clear O2 K10
      generalize w10.alloc (.cells #[.bool true, .int .i64 (B : Int), .slice u2o (plP L k true B).length u2c] 26) = w11 at *
      generalize w10.heap.size = g17 at *
      have H15' := Lib.hid (K11.out.heap H15.out id)
      have H8' := Lib.hid (K11.out.heap H89.out id)
      have O9' := Lib.hid (K11.out.owns O9.out (fun _ _ h => h))
      have KW := Lib.hid (nix_trans KW9.out K11.out)
      by_cases hlt : plN L k true B < plN L k false A
      · have t1 : decide (plN L k true B < plN L k false A) = true := decide_eq_true hlt
        have hW : bsW L k m true = true := by unfold bsW; rw [HLL.out, HFF.out, HA.out, HB.out, t1]; rfl
        have hO : bsO L k m true = B := by unfold bsO; rw [hW, HLL.out, HFF.out, HB.out]
        obtain ⟨q1, q2, q3, q4⟩ := HPO.out true B hW hO
        have Q := Lib.hid (And.intro q1 (And.intro q2 (And.intro q3 q4)))
        have HNE := Lib.hid (Nat.ne_of_lt HG15.out)
        clear hW hO q1 q2 q3 q4 HPO hlt
        generalize plN L k false A = nA at *
        generalize plN L k true B = nB at *
        go_wp2_with (first
          | (refine wpList_load_row rfl 26 _ rfl g15 rfl 26 _ (0, 0) _ (heap_row _ H15'.out) Try.underlying26 rfl size_plan ?_)
          | (refine wpList_load_row rfl 26 _ rfl g17 rfl 26 _ (0, 0) _ H17.out Try.underlying26 rfl size_plan ?_)
          | (refine wpList_store_row rfl 26 _ _ rfl _ _ rfl rfl 26 _ H15'.out size_plan rfl (one_plan _ _ _ _ _) ?_)
          | (refine wpList_store_row rfl 26 _ _ rfl _ _ rfl rfl 26 _ ((heap_row_other _ HNE.out).trans H8'.out) size_plan rfl (one_plan _ _ _ _ _) ?_))
        refine bodyPost_ret (results_plan2 rfl _ _ w.heap.size _ (nB : Int) 0 rfl (heap_row _ ((heap_row_other _ HNE.out).trans H8'.out)) rfl rfl rfl) rfl ⟨_, by rw [Q.out.1, Q.out.2.1, Q.out.2.2.2, HGD.out], ?_, (KW.out.setRow (.inr (Nat.le_of_lt HG15.out)) _).setRow (.inr (Nat.le_refl _)) _⟩
        rw [Q.out.2.2.1]
        exact keep_row_part ((heap_row_other _ HNE.out).trans H8'.out) (keep_row_part H15'.out O11.out _) _
      · have t1 : decide (plN L k true B < plN L k false A) = false := decide_eq_false hlt
        have hW : bsW L k m true = false := by unfold bsW; rw [HLL.out, HFF.out, HA.out, HB.out, t1]; rfl
        have hO : bsO L k m true = A := by unfold bsO; rw [hW, HLL.out, HFF.out, HA.out]
        obtain ⟨q1, q2, q3, q4⟩ := HPO.out false A hW hO
        have Q := Lib.hid (And.intro q1 (And.intro q2 (And.intro q3 q4)))
        clear hW hO q1 q2 q3 q4 HPO hlt
        generalize plN L k false A = nA at *
        generalize plN L k true B = nB at *
        go_wp2_with (first
          | (refine wpList_load_row rfl 26 _ rfl g15 rfl 26 _ (0, 0) _ H15'.out Try.underlying26 rfl size_plan ?_)
          | (refine wpList_store_row rfl 26 _ _ rfl _ _ rfl rfl 26 _ H8'.out size_plan rfl (one_plan _ _ _ _ _) ?_))
        refine bodyPost_ret (results_plan2 rfl _ _ w.heap.size _ (nA : Int) 0 rfl (heap_row _ H8'.out) rfl rfl rfl) rfl ⟨_, by rw [Q.out.1, Q.out.2.1, Q.out.2.2.2, HGD.out], ?_, KW.out.setRow (.inr (Nat.le_refl _)) _⟩
        rw [Q.out.2.2.1]
        exact keep_row_part H8'.out O9'.out _

end Go.Proofs.Ytliggpidkdiinaa

namespace Go.Proofs.Ytliggpidkdiinaa
open Go.RowKit Bx

def BitsInv (vr vp : Value) (P : List (List Int)) (ps : List (Int × Bool)) (m a : Nat) (w : World) (f : Act) (w' : World) : Prop :=
  f.defers = [] ∧ f.tmps.size = 78 ∧ f.tmps[7]? = some vr ∧ f.tmps[8]? = some (.int .i64 (m : Int)) ∧ f.tmps[9]? = some (.int .i64 (a : Int)) ∧ f.tmps[40]? = some vp ∧ f.tmps[41]? = some (.int .i64 (P.length : Int)) ∧
  ∃ i : Nat, i ≤ P.length ∧ f.tmps[42]? = some (.int .i64 (i : Int)) ∧ f.tmps[10]? = some (.int .i64 (6 + zsum a (P.take i) (ps.take i))) ∧ zall m (P.take i) (ps.take i) = true ∧ Kept Nix w w'

theorem zok_parts (m : Nat) (Q : List Int) (k : Int) (r : Bool) : zok m Q (k, r) = (decide (0 ≤ ceach Q k r) && (r || (decide (0 ≤ k) && decide (k ≤ (m : Int))))) := rfl

theorem bits_cases (m : Nat) (Q : List Int) (k : Int) (r : Bool) :
    (zok m Q (k, r) = true ∧ decide (ceach Q k r < 0) = false ∧ (r = true ∨ (r = false ∧ decide (k < 0) = false ∧ decide ((m : Int) < k) = false))) ∨
    (zok m Q (k, r) = false ∧ (decide (ceach Q k r < 0) = true ∨ (decide (ceach Q k r < 0) = false ∧ r = false ∧ decide (k < 0) = true) ∨ (decide (ceach Q k r < 0) = false ∧ r = false ∧ decide (k < 0) = false ∧ decide ((m : Int) < k) = true))) := by
  rw [zok_parts]
  generalize ceach Q k r = x
  cases r
  all_goals
    simp only [Bool.and_eq_true, Bool.or_eq_true, decide_eq_true_eq, decide_eq_false_iff_not, Bool.and_eq_false_iff, Bool.or_eq_false_iff, Bool.false_eq_true, false_or, true_or, and_true, true_and, reduceCtorEq, false_and, or_false, and_false]
    omega

set_option maxRecDepth 10000 in
set_option maxHeartbeats 4000000 in
theorem pbits_any (v : Value) (L : List Int) (k o : Int) (wd : Bool) (vp : Value) (ps : List (Int × Bool)) (w : World) (hv : Sl w v (ivs L)) (hp : Pts w vp ps) (hl : L.length ≤ 1048576) (hk : k ≤ 1099511627776) :
    Calls Try.prog 14 #[v, .int .i64 k, .agg #[.bool wd, .int .i64 o, vp]] w fun e w' => e = .returned (.int .i64 (pbits (pcz L (ctI L.length k o)) ps (wM wd) (wA wd))) ∧ Kept Nix w w' := by
  obtain ⟨ao, ca, rfl, -⟩ := hv.ints
  obtain ⟨po, pc, rfl, hp⟩ := hp.len
  have hb := heap_alloc_new w (.cells #[.bool wd, .int .i64 o, .slice po ps.length pc] 26)
  have k1 : Kept Nix w (w.alloc (.cells #[.bool wd, .int .i64 o, .slice po ps.length pc] 26)) := (Kept.refl _ w).alloc _
  have HB := Lib.hid (fun w' (h : Kept Nix (w.alloc (.cells #[.bool wd, .int .i64 o, .slice po ps.length pc] 26)) w') => cells_three (h.heap hb id))
  have CU := Lib.hid (pcuts_any L.length k o (w.alloc (.cells #[.bool wd, .int .i64 o, .slice po ps.length pc] 26)) hl hk)
  unfold CutsPost at CU
  have CT := Lib.hid (fun vc w' (h : Kept Nix w w') (hc : Sl w' vc (ivs (ni (ctI L.length k o)))) => pcut_any L (ctI L.length k o) _ vc w' (hv.nix h) hc (ctI_sum_le _ _ _) hl (ctI_length_le _ _ _))
  have K1 := Lib.hid k1
  have HP := Lib.hid hp
  have HLE := Lib.hid (And.intro (show (pcz L (ctI L.length k o)).length ≤ 32768 by rw [pcz_length]; exact ctI_length_le _ _ _) (show tl (pcz L (ctI L.length k o)) ≤ 1048576 from Nat.le_trans (tl_pcz _ _) hl))
  have HQL := Lib.hid (show ∀ Q, Q ∈ pcz L (ctI L.length k o) → Q.length ≤ 1048576 from fun Q hQ => by
    obtain ⟨i, hi, rfl⟩ := List.getElem_of_mem hQ
    have h1 := tl_get _ i hi
    rw [show (pcz L (ctI L.length k o)).getD i [] = (pcz L (ctI L.length k o))[i] by simp [List.getD, hi]] at h1
    exact Nat.le_trans h1 (Nat.le_trans (tl_pcz _ _) hl))
  clear hb k1 hv hp hl hk
  generalize pcz L (ctI L.length k o) = P at *
  generalize ctI L.length k o = C at *
  obtain ⟨R, hR⟩ : ∃ R, pbits P ps (wM wd) (wA wd) = R := ⟨_, rfl⟩
  rw [hR]
  have HR := Lib.hid hR
  clear hR
  obtain ⟨m, hm⟩ : ∃ m, P.length = m := ⟨_, rfl⟩
  have HM := Lib.hid hm
  generalize hq : ps.length = q at *
  have HQ := Lib.hid hq
  clear hm hq
  go_enter Try.func14, Try.ntmps14
  go_upto_region 1 with fail
  generalize w.alloc (.cells #[.bool wd, .int .i64 o, .slice po q pc] 26) = w1 at *
  obtain ⟨x0, x1, x2⟩ := HB.out w1 (Kept.refl _ _)
  go_upto_region 2 with (first
    | (go_at_call 12; refine CU.out.mono ?_; rintro e w2 ⟨u2, rfl, o2, k2⟩; have K2 := Lib.hid k2; have C2 := Lib.hid (CT.out u2 w2 (nix_trans K1.out k2) (sl_of_owns o2)); obtain ⟨uo, uc, rfl, -⟩ := owns_shape o2; clear o2 k2 CU CT)
    | (go_at_call 25; refine C2.out.mono ?_; rintro e w3 ⟨u3, rfl, ch3, k3⟩; have K3 := Lib.hid (nix_trans K2.out k3); have CH := Lib.hid ch3; clear ch3 k3 C2))
  clear x0 x1 x2
  obtain ⟨ro, rc, rfl, -⟩ := CH.out.open
  obtain ⟨x0, x1, x2⟩ := HB.out w3 K3.out
  have E0 := HR.out
  unfold pbits at E0
  rw [HM.out] at E0
  rw [HM.out] at CH ⊢
  by_cases h0 : m = 0
  · rw [if_pos (.inl h0)] at E0
    subst E0
    subst h0
    have K4 := Lib.hid (nix_trans K1.out K3.out)
    clear HR HLE HQL
    go_wp2
    go_ret
    exact ⟨rfl, K4.out⟩
  · have t0 : ((m : Int) == 0) = false := by simp; omega
    by_cases hq : m = q
    · subst hq
      have t1 : ((m : Int) != (m : Int)) = false := by simp
      have KS := Lib.hid (ks_any wd)
      go_upto_region 5 with (go_at_call 18; refine (KS.out _).mono ?_; rintro e w4 ⟨rfl, rfl⟩; clear KS)
      go_wp2
      have K4 := Lib.hid (nix_trans K1.out K3.out)
      have X := Lib.hid (fun w' (h : Kept Nix w4 w') => HB.out w' (nix_trans K3.out h))
      have EA := Lib.hid (fun (i : Nat) (hi : i < m) v' w' (h : Sl w' v' (ivs (P.getD i []))) => ceach_any v' (P.getD i []) (ps.getD i (0, false)).1 (ps.getD i (0, false)).2 w' h (HQL.out _ (by
        have h1 : i < P.length := by rw [HM.out]; exact hi
        simp [List.getD, h1])))
      have h0' := h0
      clear x0 x1 x2 t0 t1 HB K1 K3 h0
      refine wp_loop (BitsInv (.slice ro m rc) (.slice po m pc) P ps (wM wd) (wA wd) w4) (fun f _ => m - (intOf (f.tmps.getD 42 undef)).toNat) ?_ ?_
      · exact ⟨rfl, rfl, rfl, rfl, rfl, rfl, by rw [HM.out]; rfl, 0, Nat.zero_le _, rfl, rfl, rfl, Kept.refl _ _⟩
      · rintro ⟨tm, df⟩ w5 ⟨rfl, hs, e7, e8, e9, e40, e41, i, hi, e42, e10, hza, hk⟩
        simp only at hs e7 e8 e9 e40 e41 e42 e10
        rw [HM.out] at e41 hi
        obtain ⟨f, hf, hg⟩ := fr_open hs
        have g7 := hg _ _ e7
        have g8 := hg _ _ e8
        have g9 := hg _ _ e9
        have g40 := hg _ _ e40
        have g41 := hg _ _ e41
        have g42 := hg _ _ e42
        have g10 := hg _ _ e10
        simp only [List.range, List.range.loop, List.map] at hf
        rw [g7, g8, g9, g40, g41, g42, g10] at hf
        clear g7 g8 g9 g40 g41 g42 g10 hg hs e7 e8 e9 e40 e41 e42 e10
        subst hf
        have HK := Lib.hid hk
        have HZ := Lib.hid hza
        clear hk hza
        by_cases hlt : i < m
        · have hdd : decide (i < m) = true := decide_eq_true hlt
          have hi1 : (i : Int) < (m : Int) := by omega
          obtain ⟨b1, o1, rfl, hc1⟩ := HP.out.at i (by rw [HQ.out]; exact hlt)
          obtain ⟨b2, o2, rfl, ro2, rc2, hc2⟩ := CH.out.row i (by rw [HM.out]; exact hlt)
          obtain ⟨y1, y2⟩ := hc1 w5 (nix_trans K4.out HK.out)
          have R2 := Lib.hid (fun w' h => hc2 w' (nix_trans HK.out h))
          have EI := Lib.hid (EA.out i hlt)
          have ZS := Lib.hid (zsum_step (wA wd) P ps i (by rw [HM.out]; exact hlt) (by rw [HQ.out]; exact hlt))
          have ZA := Lib.hid (zall_step (wM wd) P ps i (by rw [HM.out]; exact hlt) (by rw [HQ.out]; exact hlt))
          have ZN := Lib.hid (zall_not (wM wd) P ps i (by rw [HM.out]; exact hlt) (by rw [HQ.out]; exact hlt))
          have ZF := Lib.hid (fun h => zsum_fits (m := wM wd) (a := wA wd) (P := P) (ps := ps) (i + 1) (wA_le wd) HLE.out.1 HLE.out.2 h)
          have ZF0 := Lib.hid (zsum_fits (m := wM wd) (a := wA wd) (P := P) (ps := ps) i (wA_le wd) HLE.out.1 HLE.out.2 HZ.out)
          have HI := Lib.hid hlt
          have HW := Lib.hid (show wrap64 ((i : Int) + 1) = ((i + 1 : Nat) : Int) by have := HLE.out.1; have := HM.out; rw [w64_in _ (by omega)]; omega)
          clear hc1 hc2 hlt hi EA
          generalize P.getD i [] = Q at *
          generalize ps.getD i (0, false) = pk at *
          obtain ⟨pk, pr⟩ := pk
          simp only at y1 y2 EI ZS
          generalize Q.length = ql at *
          go_upto_region 9 with fail
          have PC := Lib.hid (part_cells w5 pk pr 39)
          have K6 := Lib.hid ((Kept.refl Nix w5).alloc (.cells #[.int .i64 pk, .bool pr] 39))
          generalize w5.alloc (.cells #[.int .i64 pk, .bool pr] 39) = w6 at *
          generalize w5.heap.size = g6 at *
          obtain ⟨p1, p2, p3⟩ := PC.out w6.drew (Kept.refl _ _).drew
          obtain ⟨r1, r2⟩ := R2.out w6.drew K6.out.drew
          clear y1 y2 hdd
          go_region_law
            (first | (go_simp; go_at_call 26; refine (EI.out _ _ r2).mono ?_; rintro e w7 ⟨rfl, k7⟩; have K7 := Lib.hid k7; clear k7))
          all_goals
            have K67 := Lib.hid (show Kept Nix w6 w7 from nix_trans ((Kept.refl Nix w6).drew) K7.out)
            obtain ⟨q1, q2, q3⟩ := PC.out w7 K67.out
            clear p1 p2 p3 r1 r2 EI R2 q3
            have BC := bits_cases (wM wd) Q pk pr
            obtain ⟨x, hx⟩ : ∃ x, ceach Q pk pr = x := ⟨_, rfl⟩
            rw [hx] at BC ZS ⊢
            have KF := Lib.hid (nix_trans K4.out (nix_trans HK.out (nix_trans K6.out K67.out)))
            have KG := Lib.hid (nix_trans HK.out (nix_trans K6.out K67.out))
            clear hx
            rcases BC with ⟨bz, b1, b2⟩ | ⟨bz, bb⟩
            · have HZ2 := Lib.hid (show zall (wM wd) (P.take (i + 1)) (ps.take (i + 1)) = true by rw [ZA.out, HZ.out, bz]; rfl)
              have hz2 := ZF.out HZ2.out
              have hz1 := ZF0.out
              rw [ZS.out] at hz2
              have HZS := Lib.hid (show 6 + zsum (wA wd) (P.take (i + 1)) (ps.take (i + 1)) = 6 + (zsum (wA wd) (P.take i) (ps.take i) + ((wA wd : Int) + x)) by rw [ZS.out])
              have e3 : wrap64 ((wA wd : Int) + x) = (wA wd : Int) + x := w64_in _ (by omega)
              have e4 : wrap64 (6 + zsum (wA wd) (P.take i) (ps.take i) + ((wA wd : Int) + x)) = 6 + (zsum (wA wd) (P.take i) (ps.take i) + ((wA wd : Int) + x)) := by rw [w64_in _ (by omega)]; omega
              have E3 := Lib.hid (And.intro e3 e4)
              generalize zsum (wA wd) (P.take i) (ps.take i) = z at *
              clear hz1 hz2 bz e3 e4 ZF ZF0 ZN ZA ZS HR
              rcases b2 with rfl | ⟨rfl, b3, b4⟩
              all_goals
                go_wp2
                rw [HW.out, E3.out.1, E3.out.2]
                exact ⟨⟨rfl, rfl, rfl, rfl, rfl, rfl, by rw [HM.out]; rfl, i + 1, by rw [HM.out]; exact HI.out, rfl, by rw [HZS.out]; rfl, HZ2.out, KG.out⟩, nearer HI.out rfl⟩
            · rw [if_pos (.inr (.inr (ZN.out bz)))] at E0
              subst E0
              clear bz ZF ZF0 ZN ZA ZS HR
              generalize zsum (wA wd) (P.take i) (ps.take i) = z at *
              rcases bb with b1 | ⟨b1, rfl, b2⟩ | ⟨b1, rfl, b2, b3⟩
              all_goals
                go_wp2
                go_ret
                exact ⟨rfl, KF.out⟩
        · have hie : i = m := by omega
          subst hie
          have hdd : decide (i < i) = false := decide_eq_false hlt
          clear hlt hi
          have HT := Lib.hid (show P.take i = P ∧ ps.take i = ps from ⟨by rw [← HM.out, List.take_length], by rw [← HQ.out, List.take_length]⟩)
          have hz := HZ.out
          rw [HT.out.1, HT.out.2] at hz
          rw [if_neg (by rw [HQ.out, hz]; rintro (h | h | h); exact h0' h; exact h rfl; cases h)] at E0
          rw [HT.out.1, HT.out.2]
          have E0 := Lib.hid E0
          clear hz HR
          generalize zsum (wA wd) P ps = z at *
          go_wp2
          go_ret
          exact ⟨by rw [← E0.out]; rfl, nix_trans K4.out HK.out⟩
    · have t1 : ((m : Int) != (q : Int)) = true := bne_iff_ne.2 (by omega)
      rw [if_pos (.inr (.inl (by rw [HQ.out]; exact hq)))] at E0
      subst E0
      have K4 := Lib.hid (nix_trans K1.out K3.out)
      clear HR HLE HQL h0 hq
      go_wp2
      go_ret
      exact ⟨rfl, K4.out⟩

end Go.Proofs.Ytliggpidkdiinaa

namespace Go.Proofs.Ytliggpidkdiinaa
open Go.RowKit Bx

theorem aw_e : pbE [0, 0, 100, 100] 0 1 = 0 := by kernel_rfl
theorem aw_w : pbW [0, 0, 100, 100] 0 1 false = false := by kernel_rfl
theorem aw_o : pbO [0, 0, 100, 100] 0 1 false = 1 := by kernel_rfl
theorem aw_p : pbP [0, 0, 100, 100] 0 1 false = [(0, false), (7, false)] := by kernel_rfl
theorem aw_n : pbN [0, 0, 100, 100] 0 1 false = 34 := by kernel_rfl
theorem aw_b : pbits (pcz [0, 0, 100, 100] (ctI [0, 0, 100, 100].length 0 1)) [(0, false), (7, false)] (wM false) (wA false) = 34 := by kernel_rfl

set_option maxRecDepth 10000 in
set_option maxHeartbeats 2000000 in
theorem awake_any (w : World) : Calls Try.prog 8 #[] w fun e w' => e = .returned (.bool true) ∧ Kept Nix w w' := by
  have k1 : Kept Nix w (w.alloc (.cells (ivs [0, 0, 100, 100]).toArray 3)) := (Kept.refl _ w).alloc _
  have B1 := Lib.hid (pbest_any _ [0, 0, 100, 100] 0 1 false _ (sl_lit w [0, 0, 100, 100] 4 rfl (by decide)) (by decide))
  unfold PBPost at B1
  rw [aw_e, aw_w, aw_o, aw_p, aw_n] at B1
  have K1 := Lib.hid k1
  clear k1
  go_enter Try.func8, Try.ntmps8
  go_upto_region 2 with (go_at_call 9; refine B1.out.mono ?_; rintro e w1 ⟨u1, rfl, o1, k2⟩; have o1 : w1.ownsRow _ 39 2 u1 2 _ := o1; obtain ⟨b1, d1, rfl, -⟩ := owns_pos o1 (by decide); have K2 := Lib.hid (nix_trans K1.out k2); have O1 := Lib.hid o1; clear B1 k2 o1)
  have H1 := Lib.hid (heap_alloc_new w1 (.cells #[.bool false, .int .i64 1, .slice (some ⟨b1, 0, none⟩) 2 d1] 26))
  have K3 := Lib.hid ((Kept.refl Nix w1).alloc (.cells #[.bool false, .int .i64 1, .slice (some ⟨b1, 0, none⟩) 2 d1] 26))
  have O3 := Lib.hid (K3.out.owns O1.out (fun _ _ h => h))
  generalize w1.alloc (.cells #[.bool false, .int .i64 1, .slice (some ⟨b1, 0, none⟩) 2 d1] 26) = w2 at *
  generalize w1.heap.size = g1 at *
  have KL := Lib.hid ((Kept.refl Nix w2).alloc (.cells (ivs [0, 0, 100, 100]).toArray 3))
  have B2 := Lib.hid ((pbits_any _ [0, 0, 100, 100] 0 1 false (.slice (some ⟨b1, 0, none⟩) 2 d1) [(0, false), (7, false)] _ (sl_lit w2 [0, 0, 100, 100] 4 rfl (by decide)) ((pts_of_owns (ps := [(0, false), (7, false)]) O3.out).nix KL.out) (by decide) (by decide)).mono (R' := fun e w' => e = .returned (.int .i64 34) ∧ Kept Nix (w2.alloc (.cells (ivs [0, 0, 100, 100]).toArray 3)) w') (fun e w' h => ⟨h.1.trans (congrArg (fun x => Ending.returned (.int .i64 x)) aw_b), h.2⟩))
  obtain ⟨x0, x1, x2⟩ := cells_three H1.out
  obtain ⟨y0, y1⟩ := part_in (ps := [(0, false), (7, false)]) O3.out 0 (by decide) w2 (Kept.refl _ _)
  simp only [Nat.zero_mul, Nat.zero_add, List.getD_cons_zero] at y0 y1
  have H1L := Lib.hid (KL.out.heap H1.out id)
  have H1M : (w2.alloc (.cells #[.int .i64 0, .int .i64 0, .int .i64 100, .int .i64 100] 3)).heap[g1]? = some (.cells #[.bool false, .int .i64 1, .slice (some ⟨b1, 0, none⟩) 2 d1] 26 (0, 0)) := H1L.out
  obtain ⟨z0, z1, z2⟩ := cells_three H1M
  go_wp2_with (first
    | (go_at_call 14; refine B2.out.mono ?_; rintro e w4 ⟨rfl, k4⟩; have K4 := Lib.hid k4; clear k4 B2))
  go_ret
  exact ⟨rfl, nix_trans K2.out (nix_trans K3.out (nix_trans KL.out K4.out))⟩

end Go.Proofs.Ytliggpidkdiinaa

namespace Go.Proofs.Ytliggpidkdiinaa
open Go.RowKit Bx

/-- A slice of integers from lo to hi. -/
theorem run_win_i (w : World) (ao : Option Addr) (len cap lo hi : Nat) (h1 : lo ≤ hi) (h2 : hi ≤ cap) : (Instr.slice 22 (.slice ao len cap) (some (.int .i64 (lo : Int))) (some (.int .i64 (hi : Int))) none).run Try.prog w = .ok (.slice (if cap = lo then ao else ao.map (fun x => x.add lo)) (hi - lo) (cap - lo)) w := by
  have ht : Try.prog.underlying 22 = some (.slice (Try.prog.elem 22)) := by rw [elem_ints]; exact Try.underlying22
  rw [run_slice_lh w 22 ao len cap ht .i64 .i64 (lo : Int) (hi : Int) (by omega) (by omega) (by omega), elem_ints, size_int]
  simp [sliced]

/-- Those just ahead, as a slice. -/
theorem sl_win {w : World} {ao : Option Addr} {len cap : Nat} {zs : List Int} (h : Sl w (.slice ao len cap) (ivs zs)) (i n : Nat) (hk : i + n ≤ len) : Sl w (.slice (if cap = i then ao else ao.map (fun x => x.add i)) n (cap - i)) (ivs ((zs.drop i).take n)) :=
  sl_take_i (sl_drop_i h i (by omega)) n (by omega)

end Go.Proofs.Ytliggpidkdiinaa

namespace Go.Proofs.Ytliggpidkdiinaa
open Go.RowKit Bx

def SplitInv (vl vc : Value) (L : List Int) (C : List Nat) (wb w : World) (a : Act) (w' : World) : Prop :=
  a.defers = [] ∧ a.tmps.size = 33 ∧ a.tmps[0]? = some vl ∧ a.tmps[1]? = some vc ∧
  ∃ i : Nat, i ≤ C.length ∧ a.tmps[7]? = some (.int .i64 (i : Int)) ∧ a.tmps[6]? = some (.int .i64 ((C.take i).sum : Int)) ∧ ∃ (us : List Value) (u : Value), a.tmps[5]? = some u ∧ us.length = i ∧ w'.ownsRow w.heap.size 22 1 u i us ∧
    (∀ j, j < i → ∃ x, us[j]? = some x ∧ Sl wb x (ivs ((pcz L C).getD j []))) ∧ Kept Nix w w'

/-- Rows that are windows of what lay in wb; the slice of them is the call's own. -/
def SplitOf (L : List Int) (C : List Nat) (wb w : World) (u : Value) (w' : World) : Prop :=
  ∃ us : List Value, us.length = (pcz L C).length ∧ w'.ownsRow w.heap.size 22 1 u us.length us ∧ ∀ j, j < (pcz L C).length → ∃ x, us[j]? = some x ∧ Sl wb x (ivs ((pcz L C).getD j []))

theorem SplitOf.chs {L : List Int} {C : List Nat} {wb w w' : World} {u : Value} (h : SplitOf L C wb w u w') (hk : Kept Nix wb w') : Chs w' u (pcz L C) := by
  obtain ⟨us, h1, h2, h3⟩ := h
  refine ⟨us, sl_of_owns h2, h1, fun j hj => ?_⟩
  obtain ⟨x, hx, hs⟩ := h3 j hj
  exact ⟨x, hx, hs.nix hk⟩

theorem SplitOf.kept {L : List Int} {C : List Nat} {wb w w' w2 : World} {u : Value} {S : Nat → Prop} (h : SplitOf L C wb w u w') (hk : Kept S w' w2) (hS : ∀ k, w.heap.size ≤ k → ¬ S k) : SplitOf L C wb w u w2 := by
  obtain ⟨us, h1, h2, h3⟩ := h
  exact ⟨us, h1, hk.owns h2 (fun k hb hs => hS k (own_lt h2 hb).1 hs), h3⟩

set_option maxRecDepth 10000 in
set_option maxHeartbeats 2000000 in
theorem rsplit_at (L : List Int) (C : List Nat) (vl vc : Value) (wb w : World) (hL : Sl wb vl (ivs L)) (hC : Sl w vc (ivs (ni C))) (hs : C.sum ≤ L.length) (hl : L.length ≤ 1048576) (hcl : C.length ≤ 32768) :
    Calls Try.prog 35 #[vl, vc] w fun e w' => ∃ u, e = .returned u ∧ SplitOf L C wb w u w' ∧ Kept Nix w w' := by
  obtain ⟨ao, ca, rfl, hca, -⟩ := hL.ints
  obtain ⟨bo, cb, rfl, -⟩ := hC.ints
  rw [ni_length] at hC ⊢
  have HL := Lib.hid hL
  have HC := Lib.hid hC
  have HS := Lib.hid hs
  have HLL := Lib.hid hl
  have HCL := Lib.hid hcl
  have HCA := Lib.hid hca
  clear hL hC hs hl hcl hca
  obtain ⟨m, hm⟩ : ∃ m, C.length = m := ⟨_, rfl⟩
  have HM := Lib.hid hm
  rw [hm] at HC ⊢
  clear hm
  go_enter Try.func35, Try.ntmps35
  go_wp2
  refine wp_loop (SplitInv (.slice ao L.length ca) (.slice bo m cb) L C wb w) (fun a _ => m - (intOf (a.tmps.getD 7 undef)).toNat) ?_ ?_
  · exact ⟨rfl, rfl, rfl, rfl, 0, Nat.zero_le _, rfl, rfl, [], _, rfl, rfl, World.ownsRow_nil _ _ _ _, fun j hj => absurd hj (Nat.not_lt_zero _), Kept.refl _ _⟩
  · rintro ⟨tm, df⟩ w2 ⟨rfl, hs, e0, e1, i, hi, e7, e6, us, u, e5, hul, ho, hus, hk⟩
    simp only at hs e0 e1 e7 e6 e5
    rw [HM.out] at hi
    obtain ⟨f, hf, hg⟩ := fr_open hs
    have g0 := hg _ _ e0
    have g1 := hg _ _ e1
    have g7 := hg _ _ e7
    have g6 := hg _ _ e6
    have g5 := hg _ _ e5
    simp only [List.range, List.range.loop, List.map] at hf
    rw [g0, g1, g7, g6, g5] at hf
    clear g0 g1 g7 g6 g5 hg hs e0 e1 e7 e6 e5
    subst hf
    have HUS := Lib.hid hus
    have HUL := Lib.hid hul
    have HK := Lib.hid hk
    have HO := Lib.hid ho
    clear hus hul hk ho
    by_cases hlt : i < m
    · have hdd : decide (i < m) = true := decide_eq_true hlt
      have hi1 : (i : Int) < (m : Int) := by omega
      have hic : i < C.length := by rw [HM.out]; exact hlt
      obtain ⟨b1, o1, rfl, hc1⟩ := cell_kept HC.out i (by rw [ni_length]; exact hic)
      rw [ni_get] at hc1
      have x1 := hc1 _ HK.out
      have hsn := sum_next C i hic
      have hsl := sum_take_le C (i + 1)
      have hpg := pcz_get L C i hic
      have hzw : wrap64 (((C.take i).sum : Int) + (C.getD i 0 : Int)) = ((C.take (i + 1)).sum : Int) := by
        have := HS.out
        have := HLL.out
        rw [w64_in _ (by omega)]; omega
      have r1 := fun w => run_win_i w ao L.length ca (C.take i).sum (C.take (i + 1)).sum (by omega) (by have := HS.out; have := HCA.out; omega)
      have S2 := Lib.hid (sl_win HL.out (C.take i).sum ((C.take (i + 1)).sum - (C.take i).sum) (by have := HS.out; omega))
      rw [show (L.drop (C.take i).sum).take ((C.take (i + 1)).sum - (C.take i).sum) = (pcz L C).getD i [] by rw [hpg]; congr 1; omega] at S2
      generalize hgz1 : (C.take (i + 1)).sum = z1 at *
      have HZ1 := Lib.hid hgz1
      generalize hgvo : (if ca = (C.take i).sum then ao else ao.map (fun x => x.add (C.take i).sum)) = vo at *
      generalize hgvc : ca - (C.take i).sum = vcc at *
      generalize hgvn : z1 - (C.take i).sum = vn at *
      generalize hgz : (C.take i).sum = z0 at *
      generalize C.getD i 0 = c at *
      have M3 := Lib.hid (show i + 1 ≤ maxLen by have := HCL.out; simp only [maxLen]; omega)
      have M4 := Lib.hid (show (i + 1) * 24 ≤ 140737488355328 by have := HCL.out; omega)
      have O5 := Lib.hid (HO.out.alloc (.cells #[.slice vo vn vcc] 22))
      have HBS := Lib.hid (show w.heap.size ≤ (w2.alloc (.cells #[.slice vo vn vcc] 22)).heap.size from (HK.out.alloc _).size)
      have HI := Lib.hid hlt
      have X6 := Lib.hid (fun w' h => hc1 w' h)
      have HZW := Lib.hid hzw
      have HW := Lib.hid (show wrap64 ((i : Int) + 1) = ((i + 1 : Nat) : Int) by have := HCL.out; have := HM.out; rw [w64_in _ (by omega)]; omega)
      clear hc1 hlt hi hic hsn hsl hpg hgz1 hgvo hgvc hgvn hgz
      go_upto_region 7 with (
        refine wpList_app _ rfl _ _ 48 rfl w.heap.size 22 (.slice none 0 0) 1 24 Try.underlying48 info_ints rfl (by decide) _ _ _ rfl O5.out _ 1 1 [.slice vo vn vcc] rfl (src_one w2 _ _ rfl) M3.out M4.out HBS.out ?_
        intro v6 w6 o6 g6 n6; have k6 : Kept Nix w w6 := (HK.out.alloc _).grown g6 (fun kk hkk => .inr (O5.out.lt kk hkk).1); have K6 := Lib.hid k6; have O6 := Lib.hid o6; clear k6 o6 g6 n6)
      have x6 := X6.out w6 K6.out
      clear hzw x1 r1
      go_wp2
      rw [HW.out, HZW.out]
      refine ⟨⟨rfl, rfl, rfl, rfl, i + 1, by rw [HM.out]; exact HI.out, rfl, by rw [HZ1.out]; rfl, us ++ [.slice vo vn vcc], v6, rfl, by rw [List.length_append, HUL.out]; rfl, O6.out, fun j hj => ?_, K6.out⟩, nearer HI.out rfl⟩
      by_cases hji : j < i
      · obtain ⟨x, hx, hsx⟩ := HUS.out j hji
        exact ⟨x, by rw [List.getElem?_append_left (by rw [HUL.out]; exact hji)]; exact hx, hsx⟩
      · have hje : j = i := by omega
        subst hje
        exact ⟨_, by rw [← HUL.out]; simp, S2.out⟩
    · have hie : i = m := by omega
      subst hie
      have hdd : decide (i < i) = false := decide_eq_false hlt
      clear hlt hi
      go_wp2
      go_ret
      have hou : w2.ownsRow w.heap.size 22 1 u us.length us := by rw [HUL.out]; exact HO.out
      refine ⟨u, rfl, ⟨us, by rw [HUL.out, pcz_length, HM.out], hou, fun j hj => ?_⟩, HK.out⟩
      exact HUS.out j (by rw [pcz_length, HM.out] at hj; exact hj)

theorem rsplit_any (L : List Int) (C : List Nat) (vl vc : Value) (w : World) (hL : Sl w vl (ivs L)) (hC : Sl w vc (ivs (ni C))) (hs : C.sum ≤ L.length) (hl : L.length ≤ 1048576) (hcl : C.length ≤ 32768) :
    Calls Try.prog 35 #[vl, vc] w fun e w' => ∃ u, e = .returned u ∧ Chs w' u (pcz L C) ∧ Kept Nix w w' := by
  refine (rsplit_at L C vl vc w w hL hC hs hl hcl).mono ?_
  rintro e w' ⟨u, rfl, ho, hk⟩
  exact ⟨u, rfl, ho.chs hk, hk⟩

end Go.Proofs.Ytliggpidkdiinaa

namespace Go.Proofs.Ytliggpidkdiinaa
open Go.RowKit Bx

def lenV : Value → Nat
  | .slice _ l _ => l
  | _ => 0

structure RcNums (n k o B p r s : Nat) : Prop where
  e1 : wrap64 ((n : Int) + (k : Int)) = (B : Int)
  e2 : (2 : Int) ^ o = (p : Int)
  e3 : (B : Int).tmod (p : Int) = (r : Int)
  e4 : (B : Int).tdiv (p : Int) = (s : Int)
  e5 : wrap64 (s : Int) = (s : Int)
  e7 : ¬ p = 0
  e8 : ∀ R : Nat, R = s - k → k < s → wrap64 ((s : Int) - (k : Int)) = (R : Int)
  pl : p ≤ 32768
  ok : cutOk n k o = (decide (r = 0) && decide (k < s))
  ct : cutOk n k o = true → cts n k o = (s - k) :: List.replicate (p - 1) s

theorem rc_nums (n k o : Nat) (hn : n ≤ 1048576) (hk : k ≤ 1048576) (ho : o ≤ 15) : ∃ B p r s, RcNums n k o B p r s := by
  have h1 : 2 ^ o ≤ 32768 := Nat.pow_le_pow_right (n := 2) (by decide) ho
  have h2 := Nat.two_pow_pos o
  have h3 : (n + k) / 2 ^ o ≤ n + k := Nat.div_le_self _ _
  refine ⟨n + k, 2 ^ o, (n + k) % 2 ^ o, (n + k) / 2 ^ o, ?_, by simp, ?_, ?_, ?_, by omega, ?_, h1, ?_, ?_⟩
  · rw [w64_in _ (by omega)]; omega
  · rw [Int.tmod_eq_emod_of_nonneg (by omega)]; exact (Int.natCast_emod _ _).symm
  · rw [Int.tdiv_eq_ediv_of_nonneg (by omega)]; exact (Int.natCast_ediv _ _).symm
  · exact small_i _ (by omega)
  · intro R hR hk
    rw [sub_int hR.symm hk]
    exact small_i _ (by omega)
  · unfold cutOk
    rw [decide_eq_true ho, Bool.true_and]
  · intro h
    unfold cts
    rw [if_pos h]

theorem rc_test {r s K : Nat} (h : false = (decide (r = 0) && decide (K < s))) : ((r : Int) != 0) = true ∨ (((r : Int) != 0) = false ∧ decide (s ≤ K) = true) := by
  by_cases h1 : r = 0
  · right
    rw [decide_eq_true h1, Bool.true_and] at h
    have := of_decide_eq_false h.symm
    exact ⟨by simp [h1], decide_eq_true (by omega)⟩
  · left
    exact bne_iff_ne.2 (by omega)

theorem rc_good {r s K : Nat} (h : true = (decide (r = 0) && decide (K < s))) : ((r : Int) != 0) = false ∧ decide (s ≤ K) = false ∧ K < s := by
  have h := h.symm
  simp only [Bool.and_eq_true, decide_eq_true_eq] at h
  exact ⟨by simp [h.1], decide_eq_false (by omega), h.2⟩

def RCutsInv (B p : Nat) (C : List Nat) (w : World) (a : Act) (w' : World) : Prop :=
  a.defers = [] ∧ a.tmps.size = 57 ∧ a.tmps[7]? = some (.int .i64 (B : Int)) ∧ a.tmps[8]? = some (.int .i64 (p : Int)) ∧
  ∃ i : Nat, 1 ≤ i ∧ i ≤ p ∧ ∃ uo uc, a.tmps[9]? = some (.slice uo i uc) ∧ w'.ownsRow w.heap.size 3 1 (.slice uo i uc) i (ivs (ni (C.take i))) ∧ Kept Nix w w'

theorem rc_take {R s p i : Nat} (h1 : 1 ≤ i) (h2 : i < p) : ni ((R :: List.replicate (p - 1) s).take (i + 1)) = ni ((R :: List.replicate (p - 1) s).take i) ++ [(s : Int)] := by
  obtain ⟨j, rfl⟩ : ∃ j, i = j + 1 := ⟨i - 1, by omega⟩
  simp only [List.take_succ_cons, List.take_replicate]
  rw [show min (j + 1) (p - 1) = j + 1 by omega, show min j (p - 1) = j by omega, List.replicate_succ']
  simp [ni]

set_option maxRecDepth 10000 in
set_option maxHeartbeats 2000000 in
theorem rcuts_any (n k o : Nat) (w : World) (hn : n ≤ 1048576) (hk : k ≤ 1048576) (ho : o ≤ 15) : Calls Try.prog 34 #[.int .i64 (n : Int), .int .i64 (k : Int), .int .i64 (o : Int)] w (CutsPost n (k : Int) (o : Int) w) := by
  have tn : decide ((n : Int) < 0) = false := decide_eq_false (by omega)
  have t1 : decide ((k : Int) < 0) = false := decide_eq_false (by omega)
  have t2 : decide ((o : Int) < 0) = false := decide_eq_false (by omega)
  have t3 : decide (15 < (o : Int)) = false := decide_eq_false (by omega)
  obtain ⟨B, p, r, s, hN⟩ := rc_nums n k o hn hk ho
  have HN := Lib.hid hN
  have PW := Lib.hid (rpower_any o (by omega) w)
  rw [hN.e2] at PW
  have e1 := hN.e1
  have e3 := hN.e3
  have e4 := hN.e4
  have e5 := hN.e5
  have e7 := hN.e7
  clear hN hn hk ho
  unfold CutsPost
  rw [ctI_nat]
  cases hc : cutOk n k o with
  | false =>
    rw [cts_none hc]
    have ht := rc_test (by have h := HN.out.ok; rw [hc] at h; exact h)
    clear hc
    rcases ht with t4 | ⟨t4, t5⟩
    all_goals
      go_enter Try.func34, Try.ntmps34
      go_wp2_with (go_at_call 44; refine PW.out.mono ?_; rintro e w1 ⟨rfl, rfl⟩; clear PW)
      go_ret
      exact ⟨_, rfl, World.ownsRow_nil _ _ _ _, Kept.refl _ _⟩
  | true =>
    obtain ⟨t4, t5, t6⟩ := rc_good (by have h := HN.out.ok; rw [hc] at h; exact h)
    have HC := Lib.hid (HN.out.ct hc)
    obtain ⟨R, hR⟩ : ∃ R, R = s - k := ⟨_, rfl⟩
    have e8 := HN.out.e8 R hR t6
    rw [← hR] at HC
    clear hc hR t6
    generalize cts n k o = C at *
    have HL := Lib.hid (show C.length = p by rw [HC.out]; simp; omega)
    have O1 := Lib.hid (lit_base w w.heap.size (Nat.le_refl _) [(R : Int)] 1 rfl (by decide))
    have K1 := Lib.hid (show Kept Nix w (w.alloc (.cells #[.int .i64 (R : Int)] 3)) from (Kept.refl _ _).alloc _)
    go_enter Try.func34, Try.ntmps34
    go_wp2_with (go_at_call 44; refine PW.out.mono ?_; rintro e w1 ⟨rfl, rfl⟩; clear PW)
    refine wp_loop (RCutsInv B p C w1) (fun a _ => p - lenV (a.tmps.getD 9 undef)) ?_ ?_
    · exact ⟨rfl, rfl, rfl, rfl, 1, Nat.le_refl _, by omega, _, _, rfl, by rw [HC.out]; exact O1.out, K1.out⟩
    · clear O1 K1 t1 t2 t3 tn e1 e8 t4 t5
      rintro ⟨tm, df⟩ w2 ⟨rfl, hs, g7', g8', i, hi1, hi, uo, uc, g9', ho, hk⟩
      simp only at hs g7' g8' g9'
      obtain ⟨f, hf, hg⟩ := fr_open hs
      have g7 := hg _ _ g7'
      have g8 := hg _ _ g8'
      have g9 := hg _ _ g9'
      simp only [List.range, List.range.loop, List.map] at hf
      rw [g7, g8, g9] at hf
      clear g7 g8 g9 hg hs g7' g8' g9'
      subst hf
      have HO := Lib.hid ho
      have HK := Lib.hid hk
      clear ho hk
      by_cases hlt : i < p
      · have hdd : decide (i < p) = true := decide_eq_true hlt
        have M3 := Lib.hid (show i + 1 ≤ maxLen by have := HN.out.pl; simp only [maxLen]; omega)
        have M4 := Lib.hid (show (i + 1) * 8 ≤ 140737488355328 by have := HN.out.pl; omega)
        have O5 := Lib.hid (HO.out.alloc (.cells #[.int .i64 (s : Int)] 3))
        have HBS := Lib.hid (show w1.heap.size ≤ (w2.alloc (.cells #[.int .i64 (s : Int)] 3)).heap.size from (HK.out.alloc _).size)
        have HM := Lib.hid (show p - (i + 1) < p - i by omega)
        have HT := Lib.hid (show ni (C.take (i + 1)) = ni (C.take i) ++ [(s : Int)] by rw [HC.out]; exact rc_take hi1 hlt)
        have HI := Lib.hid hlt
        have HI1 := Lib.hid hi1
        clear hlt hi hi1
        go_wp2_with (
          refine wpList_app _ rfl _ _ 22 rfl w1.heap.size 3 (.int .i64 0) 1 8 Try.underlying22 info_int rfl (by decide) _ _ _ rfl O5.out _ 1 1 [.int .i64 (s : Int)] rfl (src_one w2 _ _ rfl) M3.out M4.out HBS.out ?_
          intro v6 w6 o6 g6 n6; have k6 : Kept Nix w1 w6 := (HK.out.alloc _).grown g6 (fun kk hkk => .inr (O5.out.lt kk hkk).1); obtain ⟨vo, vc, rfl, -⟩ := owns_shape o6; have K6 := Lib.hid k6; have O6 := Lib.hid o6; clear k6 o6 g6 n6)
        refine ⟨⟨rfl, rfl, rfl, rfl, i + 1, by have := HI1.out; omega, HI.out, vo, vc, rfl, ?_, K6.out⟩, HM.out⟩
        rw [HT.out, ivs_append]
        exact O6.out
      · have hie : i = p := by omega
        subst hie
        have hdd : decide (i < i) = false := decide_eq_false hlt
        have HE := Lib.hid (show C.take i = C by rw [← HL.out, List.take_length])
        clear hlt hi hi1
        go_wp2
        go_ret
        refine ⟨_, rfl, ?_, HK.out⟩
        rw [HL.out, ← HE.out]
        exact HO.out

end Go.Proofs.Ytliggpidkdiinaa

namespace Go.Proofs.Ytliggpidkdiinaa
open Go.RowKit

/-- The loop whose first region is the number n. -/
def firstIs (n : Nat) : Code → Bool
  | .region id _ _ => id == n
  | .seq a _ => firstIs n a
  | _ => false

def loopAt (n : Nat) : Code → Option Code
  | .seq a b => match loopAt n a with
    | some c => some c
    | none => loopAt n b
  | .block _ c => loopAt n c
  | .loop c => if firstIs n c then some (.loop c) else loopAt n c
  | .scope c => loopAt n c
  | .cond _ a b => match loopAt n a with
    | some c => some c
    | none => loopAt n b
  | _ => none

end Go.Proofs.Ytliggpidkdiinaa
