/- Package solve: Solve. -/
import Derived.Test.YtdifaaimjiflgaaSolPro
import Derived.Test.YtdifaaimjiflgaaRackI
import Derived.Test.YtdifaaimjiflgaaLagWhole
namespace Go.Proofs.Ytdifaaimjiflgaa
open Go.RowKit Bx

theorem sol_take {x A : List Int} {e : Int} (h : Sol x A e) (k : Nat) : Sol (x.take k) A e := ⟨h.lo, h.hi, h.far, bd_take h.xs k, h.many⟩

theorem getD_take (x : List Int) (k i : Nat) (h : i < k) : (x.take k).getD i 0 = x.getD i 0 := by
  simp only [List.getD_eq_getElem?_getD, List.getElem?_take, if_pos h]

theorem usum_cut (x A : List Int) (m n k : Nat) (h : m < k) : usum (x.take k) A m n = usum x A m n := by
  unfold usum fore
  rw [getD_take x k m h, sumTo_congr (fun i _ => by rw [getD_take x k (m - 1 - i) (by omega)])]

/-- The numbers up to the last order's, gone down. -/
def lowTo (zs : List Int) (order : Int) : List Int := low (zs.take (ords zs order + 1))

theorem ords_lt (zs : List Int) (order : Int) (h : 0 < zs.length) : ords zs order + 1 ≤ zs.length := by unfold ords; omega

theorem lowTo_length (zs : List Int) (order : Int) (h : 0 < zs.length) : (lowTo zs order).length = ords zs order + 1 := by
  have := ords_lt zs order h
  unfold lowTo
  rw [low_length, List.length_take]
  omega

theorem lowBy_take (zs : List Int) (k : Nat) : lowBy (zs.take (k + 1)) = lowBy zs := by
  unfold lowBy
  rw [getD_take zs (k + 1) 0 (by omega)]

theorem lowTo_get (zs : List Int) (order : Int) (i : Nat) (h : i ≤ ords zs order) : (lowTo zs order).getD i 0 = (low zs).getD i 0 := by
  unfold lowTo
  rw [low_get, low_get, lowBy_take, getD_take zs _ i (by omega)]

theorem rt_take {zs : List Int} (h : Rt zs) (k : Nat) : Rt (zs.take (k + 1)) := by
  rcases h with rfl | ⟨h1, h2, h3⟩
  · exact .inl (by simp)
  · refine .inr ⟨by rwa [getD_take zs _ 0 (by omega)], by rwa [getD_take zs _ 0 (by omega)], fun i hi => ?_⟩
    rw [List.length_take] at hi
    rw [getD_take zs _ 0 (by omega), getD_take zs _ i (by omega)]
    exact h3 i (by omega)

theorem sol_to (zs : List Int) (order : Int) (h : 1 ≤ zs.getD 0 0) : sol zs order = slv (lowTo zs order) (ords zs order) [] ((lowTo zs order).getD 0 0) := by
  unfold sol
  rw [if_neg (by omega), lowTo_get zs order 0 (Nat.zero_le _)]
  exact (slv_congr _ _ _ _ _ (fun i hi => lowTo_get zs order i (by simpa using hi))).symm

theorem sol_one {zs : List Int} (h : Rt zs) (order : Int) (h1 : 1 ≤ zs.getD 0 0) : Sol (lowTo zs order) [] ((lowTo zs order).getD 0 0) :=
  low_bd (rt_take h _) (by rwa [getD_take zs _ 0 (by omega)])

theorem ord_nums10 (zs : List Int) (order : Int) (h0 : 0 < zs.length) (hm : zs.length < 1099511627776) : ∃ mo l1 p k : Int, max order 0 = mo ∧ wrap64 ((zs.length : Int) - 1) = l1 ∧ (if 32 < mo then (32 : Int) else mo) = p ∧ (if l1 < p then l1 else p) = k ∧ wrap64 (1 + k) = ((ords zs order + 1 : Nat) : Int) ∧ 1 + k = ((ords zs order + 1 : Nat) : Int) := by
  refine ⟨_, _, _, _, rfl, rfl, rfl, rfl, ?_, ?_⟩
  · unfold ords wrap64
    omega
  · unfold ords wrap64
    omega

theorem sl_nil_i (w : World) : Sl w (.slice none 0 0) (ivs []) := ⟨none, 0, rfl, Nat.le_refl _, by simp [maxLen], fun _ => rfl, fun h => by simp [ivs] at h⟩

theorem keep_ints {base : Nat} {w2 w6 : World} {v x : Value} {n k : Nat} {us xs : List Value} (hv : w2.ownsRow base 22 1 v n us) (hg : w2.grownBy w6 v.ownBlock) (hx : w2.ownsRow base 3 1 x k xs) : w6.ownsRow base 3 1 x k xs := by
  have hk : Kept (fun k => v.ownBlock = some k) w2 w6 := ⟨hg.os, hg.tape, hg.output, hg.size, fun k hk hn => hg.block k hk (fun e => hn e.symm)⟩
  refine hk.owns hx (fun k hb hs => ?_)
  obtain ⟨c1, g1⟩ := owns_type hx hb
  obtain ⟨c2, g2⟩ := owns_type hv hs
  rw [g1] at g2
  simp at g2

theorem rt_top {zs : List Int} (h : Rt zs) : zs.getD 0 0 ≤ 4611686018427387904 := by
  rcases h with rfl | ⟨_, h, _⟩
  · simp
  · exact h

def SolPost (zs : List Int) (order : Int) (w : World) (e : Ending) (w' : World) : Prop :=
  ∃ u us, e = .returned u ∧ Rack w.heap.size w' u us (sol zs order) ∧ Kept Nix w w'

theorem rt_none {zs : List Int} (h : ¬ 1 ≤ zs.getD 0 0) (order : Int) : sol zs order = [] := by
  unfold sol
  rw [if_pos (by omega)]

theorem quo_nums {x A : List Int} {e : Int} (h : Sol x A e) (hA : A.length < 32) : wrap64 ((usum x A (A.length + 1) A.length).tdiv e) = quoOf x A e ∧ ¬ e = 0 := by
  have h1 := usum_bd h (A.length + 1) A.length (by omega)
  have h2 : ((usum x A (A.length + 1) A.length).tdiv e).natAbs ≤ (usum x A (A.length + 1) A.length).natAbs := by rw [Int.natAbs_tdiv]; exact Nat.div_le_self _ _
  have h3 := h.lo
  exact ⟨w64_in _ (by omega), by omega⟩

theorem m_nums (m N : Nat) (h : m < N) (hN : N ≤ 33) : ∃ m2 : Nat, m + 1 = m2 ∧ wrap64 ((m : Int) + 1) = (m2 : Int) ∧ (m : Int) < (N : Int) ∧ decide ((m : Int) < (N : Int)) = true ∧ decide (m < N) = true ∧ m2 ≤ N :=
  ⟨m + 1, rfl, by unfold wrap64; omega, by omega, decide_eq_true (by omega), decide_eq_true h, by omega⟩

theorem out_of {x A : List Int} {e : Int} {T R : List (List Int)} {N m : Nat} (h : T ++ slv x (N - m) A e = R) (hm : m < N) (hq : quoOf x A e ≤ -1048576 ∨ 1048576 ≤ quoOf x A e ∨ within (ext A (quoOf x A e)) = false) : T = R := by
  obtain ⟨k, hk⟩ : ∃ k, N - m = k + 1 := ⟨N - m - 1, by omega⟩
  rw [hk] at h
  by_cases h1 : quoOf x A e ≤ -1048576 ∨ 1048576 ≤ quoOf x A e
  · rw [slv_end x A e k h1, List.append_nil] at h
    exact h
  · rw [slv_far x A e k (by rcases hq with h2 | h2 | h2; · exact absurd (.inl h2) h1
                            · exact absurd (.inr h2) h1
                            · exact h2), List.append_nil] at h
    exact h

theorem on_of {x A : List Int} {e : Int} {T R : List (List Int)} {N m : Nat} (h : T ++ slv x (N - m) A e = R) (hm : m < N) (hq : -1048576 < quoOf x A e ∧ quoOf x A e < 1048576) (hw : within (ext A (quoOf x A e)) = true) (he : 1 ≤ les e (quoOf x A e)) : (T ++ [ext A (quoOf x A e)]) ++ slv x (N - (m + 1)) (ext A (quoOf x A e)) (les e (quoOf x A e)) = R := by
  obtain ⟨k, hk⟩ : ∃ k, N - m = k + 1 := ⟨N - m - 1, by omega⟩
  rw [hk, slv_step x A e k hq hw he] at h
  rw [show N - (m + 1) = k by omega, List.append_assoc]
  exact h

theorem les_wraps (e q : Int) (he : 1 ≤ e ∧ e ≤ 1073741823) (hq : -1048576 < q ∧ q < 1048576) : ∃ p f g l : Int, wrap64 (e * q) = p ∧ p / 1048576 = f ∧ wrap64 (f * q) = g ∧ wrap64 (e - g / 1048576) = l ∧ les e q = l ∧ decide (l < 1) = false := by
  obtain ⟨h1, h2, h3, h4, h5⟩ := les_nums e q he hq
  refine ⟨_, _, _, _, rfl, rfl, rfl, rfl, ?_, ?_⟩
  · rw [w64_in (e * q) (by omega), w64_in (e * q / 1048576 * q) (by omega)]
    unfold les at h4 h5 ⊢
    rw [w64_in _ (by omega)]
  · rw [w64_in (e * q) (by omega), w64_in (e * q / 1048576 * q) (by omega)]
    unfold les at h4 h5
    rw [w64_in _ (by omega)]
    exact decide_eq_false (by omega)

/-- Is any of the new factors too far? What is known while they are gone through. -/
def FarInv (vr vt vn : Value) (L : List Int) (m : Nat) (e q : Int) (w : World) (a : Act) (w' : World) : Prop :=
  a.defers = [] ∧ a.tmps.size = 86 ∧ a.tmps[0]? = some vr ∧ a.tmps[5]? = some vt ∧ a.tmps[6]? = some vn ∧ a.tmps[7]? = some (.int .i64 e) ∧ a.tmps[8]? = some (.int .i64 (m : Int)) ∧ a.tmps[9]? = some (.int .i64 q) ∧ a.tmps[57]? = some vn ∧ a.tmps[58]? = some (.int .i64 (m : Int)) ∧
  ∃ i : Nat, i ≤ m ∧ a.tmps[59]? = some (.int .i64 (i : Int)) ∧ within (L.take i) = true ∧ w' = w

/-- The loop's relation: A are the factors, T is told. -/
def SolInv (x : List Int) (R : List (List Int)) (N : Nat) (vr : Value) (w : World) (a : Act) (w' : World) : Prop :=
  a.defers = [] ∧ a.tmps.size = 86 ∧ a.tmps[0]? = some vr ∧ w'.ownsRow w.heap.size 3 1 vr N (ivs x) ∧ Kept Nix w w' ∧
  ∃ (m : Nat) (A : List Int) (T : List (List Int)) (e : Int) (va vt : Value) (us : List Value), a.tmps[8]? = some (.int .i64 (m : Int)) ∧ a.tmps[7]? = some (.int .i64 e) ∧ a.tmps[6]? = some va ∧ a.tmps[5]? = some vt ∧
    w'.ownsRow w.heap.size 3 1 va A.length (ivs A) ∧ Rack w.heap.size w' vt us T ∧ T ++ slv x (N - m) A e = R ∧ Sol x A e ∧ T.length = A.length ∧ A.length + 1 = m ∧ m ≤ N

set_option maxRecDepth 10000 in
set_option maxHeartbeats 4000000 in
theorem solve_any (v : Value) (zs : List Int) (order : Int) (w : World) (hs : Sl w v (ivs zs)) (hr : Rt zs) (hm : zs.length < 1099511627776) :
    Calls Try.prog 12 #[v, .int .i64 order] w (SolPost zs order w) := by
  obtain ⟨ao, ca, rfl, hlc, -⟩ := hs.ints
  by_cases h1 : 1 ≤ zs.getD 0 0
  · have h0 : 0 < zs.length := by
      cases zs with
      | nil => simp at h1
      | cons a t => simp
    obtain ⟨b0, o0, rfl, hc0⟩ := cell_kept hs 0 h0
    have c0 := hc0 w (Kept.refl _ w)
    rw [Nat.add_zero] at c0
    obtain ⟨mo, l1, p, kk, n1, n2, n3, n4, n5, n6⟩ := ord_nums10 zs order h0 hm
    have hk := ords_lt zs order h0
    have htk := sl_take_i hs _ hk
    have htl : (zs.take (ords zs order + 1)).length = ords zs order + 1 := by rw [List.length_take]; omega
    have hz : (zs.take (ords zs order + 1)).getD 0 0 = zs.getD 0 0 := getD_take zs _ 0 (by omega)
    have hr1 := rt_take hr (ords zs order)
    have HL := Lib.hid (lowered_any _ _ w htk (by rw [hz]; exact h1) (by rw [hz]; exact rt_top hr) (by rw [htl]; have := ords_le zs order; omega))
    have HS := Lib.hid (sol_one hr order h1)
    have HP : Hid (∀ u us w', Rack w.heap.size w' u us (sol zs order) → Kept Nix w w' → SolPost zs order w (.returned u) w') := Lib.hid (fun u us w' h k => ⟨u, us, rfl, h, k⟩)
    rw [sol_to zs order h1] at HP
    have HXL := Lib.hid (lowTo_length zs order h0)
    have HO := Lib.hid (ords_le zs order)
    rw [htl] at HL
    have hf1 := fun w => run_upto_i w (some ⟨b0, o0, none⟩) zs.length ca (ords zs order + 1) (by omega)
    have hf2 := fun w => run_upto_i_at w (some ⟨b0, o0, none⟩) zs.length ca (ords zs order + 1) (by omega)
    have e1 : ((zs.length : Int) == 0) = false := beq_false_of_ne (by omega)
    have e2 : decide (zs.getD 0 0 < 1) = false := decide_eq_false (by omega)
    have hlow : low (zs.take (ords zs order + 1)) = lowTo zs order := rfl
    rw [hlow] at HL
    clear hs hc0 htk hr hr1 hz htl hlow h1
    generalize hkk : ords zs order + 1 = N at *
    have HKK := Lib.hid hkk
    clear hkk
    generalize lowTo zs order = x at *
    generalize zs.getD 0 0 = z0 at *
    have HLC := Lib.hid hlc
    have HKL := Lib.hid hk
    have HM := Lib.hid hm
    generalize zs.length = l at *
    clear hk hm hlc
    go_enter Try.func12, Try.ntmps12
    go_wp2
    go_step3
    go_upto_region 3 with fail
    have hwN : wrap64 (N : Int) = (N : Int) := by have := HKK.out; have := HO.out; unfold wrap64; omega
    clear n6
    go_upto_region 4 with (go_at_call 17; refine HL.out.mono ?_; rintro e w1 ⟨u1, rfl, o1, k1⟩; obtain ⟨ao1, cx, rfl, -, -⟩ := owns_shape o1; have K1 := Lib.hid k1; have O1 := Lib.hid o1; clear HL k1 o1)
    clear n1 n2 n3 n4 n5 c0 hf1 hf2 e1 e2 h0 hwN
    obtain ⟨b1, o1, rfl, hc1⟩ := cell_kept (sl_of_owns O1.out) 0 (by rw [HXL.out]; have := HKK.out; omega)
    have c1 := hc1 w1 (Kept.refl _ w1)
    rw [Nat.add_zero] at c1
    have hN0 : (0 : Int) < (N : Int) := by have := HKK.out; omega
    have hN1 : 0 < N := by have := HKK.out; omega
    clear hc1
    generalize hee : x.getD 0 0 = ee at *
    go_wp2
    go_step3
    go_wp2
    have RK := Lib.hid (rack_nil w.heap.size w1)
    refine wp_loop (SolInv x (slv x (ords zs order) [] ee) N (.slice (some ⟨b1, o1, none⟩) N cx) w) (fun a _ => N - (intOf (a.tmps.getD 8 undef)).toNat) ?_ ?_
    · refine ⟨rfl, rfl, rfl, O1.out, K1.out, 1, [], [], ee, _, _, [], rfl, rfl, rfl, rfl, World.ownsRow_nil _ _ _ _, RK.out, ?_, HS.out, rfl, rfl, hN1⟩
      rw [List.nil_append, ← HKK.out]
      rfl
    · clear RK HS c1 hN0 hN1
      have HCX := Lib.hid (show N ≤ cx from (Sl.cap (sl_of_owns O1.out)).1)
      clear O1 K1 HKL HLC HM
      generalize hR : slv x (ords zs order) [] ee = R at *
      have HR := Lib.hid hR
      clear hR hee
      rintro ⟨tm, df⟩ w2 ⟨rfl, hs, h0, hox, hk, m, A, T, e, va, vt, us, h8, h7, h6, h5, hoa, hrk, heq, hsol, htl, ham, hmN⟩
      simp only at hs h0 h8 h7 h6 h5
      obtain ⟨f, hf, hg⟩ := fr_open hs
      have e0 := hg _ _ h0
      have e8 := hg _ _ h8
      have e7 := hg _ _ h7
      have e6 := hg _ _ h6
      have e5 := hg _ _ h5
      simp only [List.range, List.range.loop, List.map] at hf
      rw [e0, e8, e7, e6, e5] at hf
      clear e0 e8 e7 e6 e5 hg hs h0 h8 h7 h6 h5
      subst hf
      have HK := Lib.hid hk
      have OX := Lib.hid hox
      have OA := Lib.hid hoa
      have hsx := sl_of_owns hox
      have hsa := sl_of_owns hoa
      have SA := Lib.hid hsa
      clear hox hoa
      have RK := Lib.hid hrk
      have HE := Lib.hid heq
      have HS := Lib.hid hsol
      have HTL := Lib.hid htl
      have HAM := Lib.hid ham
      have HN33 : Hid (N ≤ 33) := Lib.hid (by have := HKK.out; have := HO.out; omega)
      by_cases hlt : m < N
      · obtain ⟨m2, hm2, n1, n2, n3, n4, n5⟩ := m_nums m N hlt HN33.out
        have hA32 : A.length < 32 := by have := HN33.out; omega
        have hxl : x.length = N := HXL.out
        have UF := Lib.hid (unf_any _ va (x.take m2) A e w2 (sl_take_i hsx m2 n5) hsa (sol_take hsol m2) (by rw [List.length_take]; omega) hA32)
        rw [usum_cut x A _ _ m2 (by omega)] at UF
        obtain ⟨q1, q2⟩ := quo_nums hsol hA32
        have hf1 := fun w => run_upto_i w (some ⟨b1, o1, none⟩) N cx m2 (by have := HCX.out; omega)
        have hf2 := fun w => run_upto_i_at w (some ⟨b1, o1, none⟩) N cx m2 (by have := HCX.out; omega)
        have N1 := Lib.hid n1
        have HM2 := Lib.hid hm2
        have HI := Lib.hid hlt
        have HA32 := Lib.hid hA32
        clear hk hsx hsa hrk heq hsol htl ham hmN hlt hm2 hxl n5 hA32
        generalize usum x A (A.length + 1) A.length = U at *
        generalize hq : quoOf x A e = q at *
        have HQ := Lib.hid hq
        clear hq
        go_upto_region 11 with (go_at_call 18; refine UF.out.mono ?_; rintro e2 w3 ⟨rfl, rfl⟩; clear UF)
        rw [q1]
        clear q1 q2 hf1 hf2 n2 n3 n4 n1
        have HOUT := Lib.hid (fun hq => out_of HE.out HI.out hq)
        rw [HQ.out] at HOUT
        by_cases hb1 : q ≤ -1048576
        · have t1 : decide (q ≤ -1048576) = true := decide_eq_true hb1
          have HT := Lib.hid (HOUT.out (.inl hb1))
          clear hb1
          go_wp2
          try rw [Exit.noGoto_ret]
          go_ret
          exact HP.out _ _ _ (HT.out ▸ RK.out) HK.out
        by_cases hb2 : 1048576 ≤ q
        · have t1 : decide (q ≤ -1048576) = false := decide_eq_false hb1
          have t2 : decide (1048576 ≤ q) = true := decide_eq_true hb2
          have HT := Lib.hid (HOUT.out (.inr (.inl hb2)))
          clear hb1 hb2
          go_wp2
          try rw [Exit.noGoto_ret]
          go_ret
          exact HP.out _ _ _ (HT.out ▸ RK.out) HK.out
        have t1 : decide (q ≤ -1048576) = false := decide_eq_false hb1
        have t2 : decide (1048576 ≤ q) = false := decide_eq_false hb2
        have HQB := Lib.hid (show -1048576 < q ∧ q < 1048576 by omega)
        have EX := Lib.hid (ext_any va x A e q w3 SA.out HS.out HQB.out HA32.out)
        have HON := Lib.hid (fun hw he => on_of HE.out HI.out (by rw [HQ.out]; exact HQB.out) hw he)
        have HSN := Lib.hid (fun hw => sol_next HS.out HA32.out q HQB.out hw)
        rw [HQ.out] at HON
        have HLL := Lib.hid ((ext_length A q).trans HAM.out)
        rw [HAM.out] at EX
        clear hb1 hb2
        generalize ext A q = L at *
        go_upto_region 13 with (go_at_call 19; refine EX.out.mono ?_; rintro e2 w4 ⟨u4, rfl, o4, k4⟩; obtain ⟨ao4, c4, rfl, -, -⟩ := owns_shape o4; have K4 := Lib.hid k4; have O4 := Lib.hid o4; clear EX o4 k4)
        clear t1 t2
        go_wp2
        have HNW := Lib.hid HXL.out
        refine wp_loop (FarInv (.slice (some ⟨b1, o1, none⟩) N cx) vt (.slice ao4 m c4) L m e q w4) (fun a _ => m - (intOf (a.tmps.getD 59 undef)).toNat) ?_ ?_
        · exact ⟨rfl, rfl, rfl, rfl, rfl, rfl, rfl, rfl, rfl, rfl, 0, Nat.zero_le _, rfl, rfl, rfl⟩
        · clear HNW
          rintro ⟨tm, df⟩ w5 ⟨rfl, hs, h0, h5, h6, h7, h8, h9, h57, h58, i, hi, h59, hwi, rfl⟩
          simp only at hs h0 h5 h6 h7 h8 h9 h57 h58 h59
          obtain ⟨f5, hf, hg⟩ := fr_open hs
          have e0 := hg _ _ h0
          have e5 := hg _ _ h5
          have e6 := hg _ _ h6
          have e7 := hg _ _ h7
          have e8 := hg _ _ h8
          have e9 := hg _ _ h9
          have e57 := hg _ _ h57
          have e58 := hg _ _ h58
          have e59 := hg _ _ h59
          simp only [List.range, List.range.loop, List.map] at hf
          rw [e0, e5, e6, e7, e8, e9, e57, e58, e59] at hf
          clear e0 e5 e6 e7 e8 e9 e57 e58 e59 hg hs h0 h5 h6 h7 h8 h9 h57 h58 h59
          subst hf
          have HWI := Lib.hid hwi
          clear hwi
          by_cases hlt : i < m
          · obtain ⟨b6, o6, rfl, hc6⟩ := cell_kept (sl_of_owns O4.out) i (by rw [HLL.out]; exact hlt)
            have c6 := hc6 w5 (Kept.refl _ _)
            have i1 : (i : Int) < (m : Int) := by omega
            have d1 : decide ((i : Int) < (m : Int)) = true := decide_eq_true i1
            have d2 : decide (i < m) = true := decide_eq_true hlt
            have hwr : wrap64 ((i : Int) + 1) = ((i + 1 : Nat) : Int) := by have := HN33.out; have := HI.out; unfold wrap64; omega
            have HWR := Lib.hid hwr
            have HLT := Lib.hid hlt
            have HWT := Lib.hid (within_take L i (by rw [HLL.out]; exact hlt))
            have HWO := Lib.hid (fun hf => within_out L i (by rw [HLL.out]; exact hlt) hf)
            clear hlt hi hc6 hwr
            generalize L.getD i 0 = li at *
            by_cases hb1 : li < -67108864
            · have t1 : decide (li < -67108864) = true := decide_eq_true hb1
              have HT := Lib.hid (HOUT.out (.inr (.inr (HWO.out (by rw [t1]; rfl)))))
              have RK4 := Lib.hid (RK.out.kept K4.out)
              clear hb1
              go_wp2
              try rw [Exit.noGoto_ret]
              go_ret
              exact HP.out _ _ _ (HT.out ▸ RK4.out) (nix_trans HK.out K4.out)
            by_cases hb2 : 67108864 < li
            · have t1 : decide (li < -67108864) = false := decide_eq_false hb1
              have t2 : decide (67108864 < li) = true := decide_eq_true hb2
              have HT := Lib.hid (HOUT.out (.inr (.inr (HWO.out (by rw [t1, t2]; rfl)))))
              have RK4 := Lib.hid (RK.out.kept K4.out)
              clear hb1 hb2
              go_wp2
              try rw [Exit.noGoto_ret]
              go_ret
              exact HP.out _ _ _ (HT.out ▸ RK4.out) (nix_trans HK.out K4.out)
            have t1 : decide (li < -67108864) = false := decide_eq_false hb1
            have t2 : decide (67108864 < li) = false := decide_eq_false hb2
            clear hb1 hb2
            go_wp2
            rw [HWR.out]
            refine ⟨⟨rfl, rfl, rfl, rfl, rfl, rfl, rfl, rfl, rfl, rfl, i + 1, HLT.out, rfl, ?_, rfl⟩, nearer HLT.out rfl⟩
            rw [HWT.out, HWI.out, t1, t2]
            rfl
          · have hie : i = m := by omega
            have hd : decide ((i : Int) < (m : Int)) = false := decide_eq_false (by omega)
            have hd' : decide (i < m) = false := decide_eq_false hlt
            have HW : Hid (within L = true) := Lib.hid (by have h := HWI.out; rwa [hie, List.take_of_length_le (Nat.le_of_eq HLL.out)] at h)
            obtain ⟨p, fq, g, le, l1, l2, l3, l4, l5, l6⟩ := les_wraps e q ⟨HS.out.lo, HS.out.hi⟩ HQB.out
            have HES := Lib.hid l5
            have O8 := Lib.hid (show (w5.alloc (.cells #[.slice ao4 m c4] 22)).ownsRow w.heap.size 22 1 vt us.length us from (K4.out.owns RK.out.1 (fun _ _ h => h)).alloc _)
            have HUL : us.length ≤ 33 := by have := RK.out.2.1; have := HTL.out; have := HAM.out; have := HN33.out; have := HI.out; omega
            have HB1 := Lib.hid (show us.length + 1 ≤ maxLen by simp only [maxLen]; omega)
            have HB2 := Lib.hid (show (us.length + 1) * 24 ≤ 140737488355328 by omega)
            have HBS := Lib.hid (show w.heap.size ≤ (w5.alloc (.cells #[.slice ao4 m c4] 22)).heap.size by have h1 := HK.out.size; have h2 := K4.out.size; simp; omega)
            have HIE := Lib.hid hie
            have hwm : wrap64 ((m : Int) + 1) = (m2 : Int) := N1.out
            clear hlt hi hie HUL l5
            go_wp2_with (first
              | (go_at_call 20; refine (units_any _ _).mono ?_; rintro e3 w7 ⟨rfl, rfl⟩)
              | (refine wpList_app _ rfl _ _ 26 rfl w.heap.size 22 (.slice none 0 0) 1 24 Try.underlying26 info_ints rfl (by decide) vt us.length us rfl O8.out (some ⟨w5.heap.size, 0, none⟩) 1 1 [.slice ao4 m c4] rfl (src_one w5 _ _ rfl) HB1.out HB2.out HBS.out ?_
                 intro v6 w6 o6 g6 n6; have O6 := Lib.hid o6; have G6 := Lib.hid g6; clear o6 g6 n6))
            rw [N1.out, l4]
            have hle : L.length = m := HLL.out
            have KA := Lib.hid ((nix_trans HK.out K4.out).alloc (.cells #[.slice ao4 m c4] 22))
            have OL := Lib.hid (show (w5.alloc (.cells #[.slice ao4 m c4] 22)).ownsRow w.heap.size 3 1 (.slice ao4 m c4) L.length (ivs L) from by rw [hle]; exact (owns_weak O4.out HK.out.size).alloc _)
            have HON2 := HON.out HW.out (by rw [HES.out]; have := (les_nums e q ⟨HS.out.lo, HS.out.hi⟩ HQB.out).2.2.2.1; rw [HES.out] at this; exact this)
            have HSN2 := HSN.out HW.out
            rw [HES.out] at HON2 HSN2
            refine ⟨⟨rfl, rfl, rfl, keep_ints O8.out G6.out ((K4.out.owns OX.out (fun _ _ h => h)).alloc _), KA.out.grown G6.out (fun k hk => .inr (O8.out.lt k hk).1), m2, L, T ++ [L], le, _, v6, _, rfl, rfl, rfl, rfl, keep_ints O8.out G6.out OL.out, RK.out.push (nix_trans K4.out ((Kept.refl _ w5).alloc _)) OL.out O6.out G6.out, ?_, HSN2, ?_, ?_, ?_⟩, ?_⟩
            · rw [← HM2.out]; exact HON2
            · rw [List.length_append, HTL.out, hle, ← HAM.out]; rfl
            · rw [hle]; exact HM2.out
            · rw [← HM2.out]; exact HI.out
            · exact nearer HI.out HM2.out
      · have hie : m = N := by omega
        have hd : decide ((m : Int) < (N : Int)) = false := decide_eq_false (by omega)
        have hd' : decide (m < N) = false := decide_eq_false hlt
        have HT : Hid (T = R) := Lib.hid (by have h := HE.out; rw [hie, Nat.sub_self, slv, List.append_nil] at h; exact h)
        clear hk hsx hsa hrk heq hsol htl ham hmN hlt hie
        go_wp2
        try rw [Exit.noGoto_ret]
        go_ret
        exact HP.out _ _ _ (HT.out ▸ RK.out) HK.out
  · rw [show SolPost zs order w = fun e w' => ∃ u us, e = .returned u ∧ Rack w.heap.size w' u us [] ∧ Kept Nix w w' by funext e w'; simp only [SolPost, rt_none h1]]
    have HRN := Lib.hid (rack_nil w.heap.size w)
    cases zs with
    | nil =>
      clear hs hr
      go_enter Try.func12, Try.ntmps12
      go_wp2
      go_step3
      go_wp2
      rw [Exit.noGoto_ret]
      go_ret
      exact ⟨_, _, rfl, HRN.out, Kept.refl _ _⟩
    | cons z0 t =>
      have h0 : 0 < (z0 :: t).length := by simp
      obtain ⟨b0, o0, rfl, hc0⟩ := cell_kept hs 0 h0
      have c0 := hc0 w (Kept.refl _ w)
      rw [Nat.add_zero, List.getD_cons_zero] at c0
      have e1 : (((z0 :: t).length : Int) == 0) = false := beq_false_of_ne (by omega)
      have e2 : decide (z0 < 1) = true := by rw [List.getD_cons_zero] at h1; exact decide_eq_true (by omega)
      clear hs hr hc0 h1
      generalize (z0 :: t).length = l at *
      go_enter Try.func12, Try.ntmps12
      go_wp2
      go_step3
      go_wp2
      rw [Exit.noGoto_ret]
      go_ret
      exact ⟨_, _, rfl, HRN.out, Kept.refl _ _⟩

end Go.Proofs.Ytdifaaimjiflgaa
