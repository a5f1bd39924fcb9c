/- The reference of layer 10: Solve. -/
import Derived.Test.YtdifaaimjiflgaaSolR2
import Derived.Test.YtdifaaimjiflgaaSolR5
import Derived.Test.YtdifaaimjiflgaaSolR6
namespace Go.Proofs.Ytdifaaimjiflgaa
open Go.RowKit Bx

def RMInv (order : Int) (x : List Int) (R : List (List Int)) (K N : Nat) (vx : Value) (w : World) (a : Act) (w' : World) : Prop :=
  ∃ (m : Nat) (A : List Int) (T : List (List Int)) (e : Int) (va vo : Value) (us : List Value), RS order e m vx vo a ∧ a.tmps[9]? = some va ∧ A.length + 1 = m ∧ A.length ≤ K ∧ w'.ownsRow w.heap.size 3 1 vx N (ivs x) ∧ w'.ownsRow w.heap.size 3 1 va m (ivs (0 :: A)) ∧
    Rack w.heap.size w' vo us T ∧ T ++ slv x (K - A.length) A e = R ∧ Sol x A e ∧ T.length = A.length ∧ Kept Nix w w'

theorem r_head (n l K : Nat) (order : Int) (hK : K = min (min (max order 0) 32).toNat (l - 1)) (hl : 0 < l) : ∀ m : Nat, n + 1 = m →
    (n < K → decide ((m : Int) ≤ order) = true ∧ decide ((m : Int) ≤ 32) = true ∧ decide (m ≤ 32) = true ∧ decide ((m : Int) < (l : Int)) = true ∧ decide (m < l) = true) ∧
    (¬ n < K → decide ((m : Int) ≤ order) = false ∨ (decide ((m : Int) ≤ order) = true ∧ decide ((m : Int) ≤ 32) = false ∧ decide (m ≤ 32) = false) ∨ (decide ((m : Int) ≤ order) = true ∧ decide ((m : Int) ≤ 32) = true ∧ decide (m ≤ 32) = true ∧ decide ((m : Int) < (l : Int)) = false ∧ decide (m < l) = false)) := by
  rintro m rfl
  constructor
  · intro h
    exact ⟨decide_eq_true (by omega), decide_eq_true (by omega), decide_eq_true (by omega), decide_eq_true (by omega), decide_eq_true (by omega)⟩
  · intro h
    by_cases a : ((n + 1 : Nat) : Int) ≤ order
    · by_cases b : n + 1 ≤ 32
      · exact .inr (.inr ⟨decide_eq_true a, decide_eq_true (by omega), decide_eq_true b, decide_eq_false (by omega), decide_eq_false (by omega)⟩)
      · exact .inr (.inl ⟨decide_eq_true a, decide_eq_false (by omega), decide_eq_false b⟩)
    · exact .inl (decide_eq_false a)

theorem drop_one {w6 : World} {ao : Option Addr} {m cap : Nat} {L : List Int} (h : Sl w6 (.slice ao (m + 1) cap) (ivs (0 :: L))) : ∃ A1 c2, (∀ w, (Instr.slice 22 (.slice ao (m + 1) cap) (some (.int .i64 1)) none none).run Try.prog w = .ok (.slice A1 m c2) w) ∧
    (∀ w, (Instr.sliceAt 22 (.slice ao (m + 1) cap) (some (.int .i64 1)) none none).run Try.prog w = .ok (.slice A1 m c2) w) ∧ Sl w6 (.slice A1 m c2) (ivs L) :=
  ⟨_, _, fun w => run_from_i w ao (m + 1) cap 1 (by omega), fun w => run_from_i_at w ao (m + 1) cap 1 (by omega), sl_drop_i h 1 (by omega)⟩

theorem les_down (e q : Int) (he : 1 ≤ e ∧ e ≤ 1073741823) (hq : -1048576 < q ∧ q < 1048576) : ∃ p f g l : Int, wrap64 (e * q) = p ∧ p / 1048576 = f ∧ wrap64 (f * q) = g ∧ wrap64 (e - g / 1048576) = l ∧ les e q = l ∧ decide (l < 1) = false ∧ (-9223372036854775807 ≤ p ∧ p ≤ 9223372036854775807) ∧ (-9223372036854775807 ≤ g ∧ g ≤ 9223372036854775807) := by
  obtain ⟨p, f, g, l, a1, a2, a3, a4, a5, a6⟩ := les_wraps e q he hq
  obtain ⟨h1, h2, -⟩ := les_nums e q he hq
  refine ⟨p, f, g, l, a1, a2, a3, a4, a5, a6, ?_, ?_⟩
  · rw [w64_in _ (by omega)] at a1
    omega
  · rw [w64_in _ (by omega)] at a1
    rw [← a2, ← a1] at a3
    rw [w64_in _ (by omega)] at a3
    omega

set_option maxRecDepth 10000 in
set_option maxHeartbeats 4000000 in
theorem rsol_any (v : Value) (zs : List Int) (order : Int) (w : World) (hs : Sl w v (ivs zs)) (hr : Rt zs) (hm : zs.length ≤ 40) :
    Calls Try.prog 13 #[v, .int .i64 order] w (SolPost zs order w) := by
  obtain ⟨ao, ca, rfl, -, -⟩ := hs.ints
  by_cases h1 : 1 ≤ zs.getD 0 0
  · have h0 : 0 < zs.length := by
      cases zs with
      | nil => simp at h1
      | cons a t => simp
    obtain ⟨b0, o0, rfl, hc0⟩ := cell_kept hs 0 h0
    have c0 := hc0 w (Kept.refl _ w)
    rw [Nat.add_zero] at c0
    have e1 : ((zs.length : Int) == 0) = false := beq_false_of_ne (by omega)
    have e2 : (zs.getD 0 0 == 0) = false := beq_false_of_ne (by omega)
    have SX := Lib.hid hs
    have HR := Lib.hid hr
    have H1 := Lib.hid h1
    have HM := Lib.hid hm
    have HZ := Lib.hid (rt_top hr)
    clear hs hr h1 hm hc0
    generalize hz0 : zs.getD 0 0 = z0 at *
    have HZ0 := Lib.hid hz0
    clear hz0
    generalize hl : zs.length = l at *
    have HL := Lib.hid hl
    clear hl
    go_enter Try.func13, Try.ntmps13
    go_wp2
    clear e1 e2 c0
    refine rsol_l1 (.slice (some ⟨b0, o0, none⟩) l ca) order zs _ w _ ⟨rfl, rfl, rfl, rfl⟩ rfl SX.out (by rw [HZ0.out]; exact H1.out) (by rw [HZ0.out]; exact HZ.out) ?_
    rintro ⟨tm, df⟩ ⟨rfl, hs, e0, e1⟩ e5
    simp only at hs e0 e1 e5
    obtain ⟨f, hf, hg⟩ := fr_open hs
    have g0 := hg _ _ e0
    have g1 := hg _ _ e1
    have g5 := hg _ _ e5
    simp only [List.range, List.range.loop, List.map] at hf
    rw [g0, g1, g5] at hf
    clear g0 g1 g5 hg hs e0 e1 e5
    subst hf
    go_wp2
    refine rsol_l2 (.slice (some ⟨b0, o0, none⟩) l ca) order zs _ w _ ⟨rfl, rfl, rfl, rfl⟩ rfl rfl rfl SX.out (by rw [HL.out]; exact HM.out) ?_ ?_
    · intro i hi
      rcases HR.out with h | ⟨_, _, h⟩
      · rw [h] at hi; simp at hi
      · have := h i hi; have := rt_top HR.out; omega
    clear f
    rintro ⟨tm, df⟩ w1 u ⟨rfl, hs, e0, e1⟩ e6 ho hk
    simp only at hs e0 e1 e6
    obtain ⟨f, hf, hg⟩ := fr_open hs
    have g0 := hg _ _ e0
    have g1 := hg _ _ e1
    have g6 := hg _ _ e6
    simp only [List.range, List.range.loop, List.map] at hf
    rw [g0, g1, g6] at hf
    clear g0 g1 g6 hg hs e0 e1 e6
    subst hf
    rw [HL.out] at ho
    have HP : Hid (∀ u us w', Rack w.heap.size w' u us (sol zs order) → Kept Nix w w' → SolPost zs order w (.returned u) w') := Lib.hid (fun u us w' h k => ⟨u, us, rfl, h, k⟩)
    rw [show sol zs order = slv (low zs) (ords zs order) [] ((low zs).getD 0 0) by unfold sol; rw [if_neg (by rw [HZ0.out]; have := H1.out; omega)]] at HP
    have HS := Lib.hid (low_bd HR.out (by rw [HZ0.out]; exact H1.out))
    have HXL := Lib.hid ((low_length zs).trans HL.out)
    have HKD : Hid (ords zs order = min (min (max order 0) 32).toNat (l - 1)) := Lib.hid (by unfold ords; rw [HL.out])
    have HK1 := Lib.hid hk
    have HO1 := Lib.hid ho
    obtain ⟨ax, cx, rfl, -, -⟩ := owns_shape ho
    obtain ⟨bx, ox, rfl, hcx⟩ := cell_kept (sl_of_owns ho) 0 (by rw [HXL.out]; exact h0)
    have cx0 := hcx w1 (Kept.refl _ _)
    rw [Nat.add_zero] at cx0
    have h0' : (0 : Int) < (l : Int) := by omega
    clear hk ho hcx HR SX HZ H1 HZ0 HL
    generalize ords zs order = K at *
    generalize low zs = x at *
    generalize hee : x.getD 0 0 = ee at *
    have K2 := Lib.hid (HK1.out.alloc (.cells #[.int .i64 0] 3))
    have O2 := Lib.hid (HO1.out.alloc (.cells #[.int .i64 0] 3))
    have HLR := Lib.hid (lit_base w1 w.heap.size HK1.out.size [0] 1 rfl (by decide))
    have RK := Lib.hid (rack_nil w.heap.size (w1.alloc (.cells #[.int .i64 0] 3)))
    go_wp2
    clear cx0 h0' hee HK1 HO1
    generalize hR : slv x K [] ee = R at *
    have HRR := Lib.hid hR
    clear hR
    refine wp_loop (RMInv order x R K l (.slice (some ⟨bx, ox, none⟩) l cx) w) (fun a _ => (K + 1) - (intOf (a.tmps.getD 11 undef)).toNat) ?_ ?_
    · exact ⟨1, [], [], ee, _, _, [], ⟨rfl, rfl, rfl, rfl, rfl, rfl, rfl⟩, rfl, rfl, Nat.zero_le _, O2.out, HLR.out, RK.out, HRR.out, HS.out, rfl, K2.out⟩
    · clear K2 O2 HLR RK HS HRR
      rintro ⟨tm, df⟩ w2 ⟨m, A, T, e, va, vo, us, ⟨rfl, hs, e1, e6, e8, e10, e11⟩, e9, ham, hak, hox, hoa, hrk, heq, hsol, htl, hk⟩
      simp only at hs e1 e6 e8 e10 e11 e9
      obtain ⟨f2, hf, hg⟩ := fr_open hs
      have g1 := hg _ _ e1
      have g6 := hg _ _ e6
      have g8 := hg _ _ e8
      have g10 := hg _ _ e10
      have g11 := hg _ _ e11
      have g9 := hg _ _ e9
      simp only [List.range, List.range.loop, List.map] at hf
      rw [g1, g6, g8, g10, g11, g9] at hf
      clear g1 g6 g8 g10 g11 g9 hg hs e1 e6 e8 e10 e11 e9
      subst hf
      have HAM := Lib.hid ham
      have HAK := Lib.hid hak
      have OX := Lib.hid hox
      have OA := Lib.hid hoa
      have RK := Lib.hid hrk
      have HE := Lib.hid heq
      have HS := Lib.hid hsol
      have HTL := Lib.hid htl
      have HK := Lib.hid hk
      obtain ⟨H1, H2⟩ := r_head A.length l K order HKD.out h0 m ham
      clear ham hak hox hoa hrk heq hsol htl hk
      by_cases hlt : A.length < K
      · obtain ⟨d1, d2, d3, d4, d5⟩ := H1 hlt
        have HA32 : Hid (A.length < 32) := Lib.hid (by have := HKD.out; omega)
        have HML : Hid (m < l) := Lib.hid (of_decide_eq_true d5)
        have HLT := Lib.hid hlt
        obtain ⟨bx1, ox1, he, hcx⟩ := cell_kept (sl_of_owns OX.out) m (by rw [HXL.out]; exact HML.out)
        simp only [Option.some.injEq, Addr.mk.injEq, and_true] at he
        obtain ⟨rfl, rfl⟩ := he
        have cx1 := hcx w2 (Kept.refl _ _)
        have hml : (m : Int) < (l : Int) := by have := HML.out; omega
        have hw0 : wrap64 (x.getD m 0 * 1048576) = usum x A m 0 := by
          have h0 := usum_zero x A m
          have hb0 := usum_bd HS.out m 0 (by omega)
          rw [h0] at hb0
          rw [h0]; unfold wrap64; omega
        have HW0 := Lib.hid hw0
        clear H1 H2 hlt hcx hw0
        generalize x.getD m 0 = xm at *
        go_wp2
        rw [HW0.out]
        clear cx1 hml d1 d2 d3 d4 d5
        refine rsol_l4 order e m A.length (.slice (some ⟨bx, ox, none⟩) l cx) va vo x A _ w2 _ ⟨rfl, rfl, rfl, rfl, rfl, rfl, rfl⟩ rfl rfl rfl (sl_of_owns OX.out) (sl_of_owns OA.out) HS.out rfl HAM.out.symm HA32.out (by rw [HXL.out]; exact HML.out) ?_
        rintro ⟨tm, df⟩ n3 ⟨rfl, hs, e1, e6, e8, e10, e11⟩ e9 e12
        simp only at hs e1 e6 e8 e10 e11 e9 e12
        obtain ⟨f3, hf, hg⟩ := fr_open hs
        have g1 := hg _ _ e1
        have g6 := hg _ _ e6
        have g8 := hg _ _ e8
        have g10 := hg _ _ e10
        have g11 := hg _ _ e11
        have g9 := hg _ _ e9
        have g12 := hg _ _ e12
        simp only [List.range, List.range.loop, List.map] at hf
        rw [g1, g6, g8, g10, g11, g9, g12] at hf
        clear g1 g6 g8 g10 g11 g9 g12 hg hs e1 e6 e8 e10 e11 e9 e12
        subst hf
        have K3 := Lib.hid (show Kept Nix w2 (w2.drewN n3) from (Kept.refl _ w2).drewN n3)
        generalize w2.drewN n3 = w3 at *
        obtain ⟨q1, q2⟩ := quo_nums HS.out HA32.out
        have hq : quoOf x A e = (usum x A (A.length + 1) A.length).tdiv e := rfl
        rw [HAM.out] at q1 hq
        have HOUT := Lib.hid (fun hq => out_of (m := A.length) HE.out HLT.out hq)
        have HON := Lib.hid (fun hq hw he => on_of (m := A.length) HE.out HLT.out hq hw he)
        generalize quoOf x A e = q at *
        generalize usum x A m A.length = U at *
        have Q1 := Lib.hid q1
        go_upto_region 23 with fail
        rw [Q1.out]
        clear q1 q2 hq Q1
        by_cases hb1 : 1048576 ≤ q
        · have t1 : decide (1048576 ≤ q) = true := decide_eq_true hb1
          have HT := Lib.hid (HOUT.out (.inr (.inl hb1)))
          clear hb1
          go_wp2
          go_ret
          exact HP.out _ _ _ (HT.out ▸ RK.out.kept K3.out) (nix_trans HK.out K3.out)
        by_cases hb2 : q ≤ -1048576
        · have t1 : decide (1048576 ≤ q) = false := decide_eq_false hb1
          have t2 : decide (q ≤ -1048576) = true := decide_eq_true hb2
          have HT := Lib.hid (HOUT.out (.inl hb2))
          clear hb1 hb2
          go_wp2
          go_ret
          exact HP.out _ _ _ (HT.out ▸ RK.out.kept K3.out) (nix_trans HK.out K3.out)
        have t1 : decide (1048576 ≤ q) = false := decide_eq_false hb1
        have t2 : decide (q ≤ -1048576) = false := decide_eq_false hb2
        have HQB := Lib.hid (show -1048576 < q ∧ q < 1048576 by omega)
        clear hb1 hb2
        go_wp2
        clear t1 t2
        have OB := Lib.hid (lit_base w3 w3.heap.size (Nat.le_refl _) [0] 1 rfl (by decide))
        have OA3 := Lib.hid (K3.out.owns OA.out (fun _ _ h => h))
        refine rsol_l5 order e q m A.length (.slice (some ⟨bx, ox, none⟩) l cx) va vo _ x A _ w3 _ _ ⟨rfl, rfl, rfl, rfl, rfl, rfl, rfl⟩ rfl rfl rfl rfl (sl_of_owns OA3.out) HS.out HQB.out rfl HAM.out.symm HA32.out OB.out ((Kept.refl _ w3).alloc _) ?_
        clear f3
        rintro ⟨tm, df⟩ w4 vb ⟨rfl, hs, e1, e6, e8, e10, e11⟩ e9 e14 e15 ob k4
        simp only at hs e1 e6 e8 e10 e11 e9 e14 e15
        obtain ⟨f4, hf, hg⟩ := fr_open hs
        have g1 := hg _ _ e1
        have g6 := hg _ _ e6
        have g8 := hg _ _ e8
        have g10 := hg _ _ e10
        have g11 := hg _ _ e11
        have g9 := hg _ _ e9
        have g14 := hg _ _ e14
        have g15 := hg _ _ e15
        simp only [List.range, List.range.loop, List.map] at hf
        rw [g1, g6, g8, g10, g11, g9, g14, g15] at hf
        clear g1 g6 g8 g10 g11 g9 g14 g15 hg hs e1 e6 e8 e10 e11 e9 e14 e15
        subst hf
        have HM33 := Lib.hid (show m ≤ 32 by have := HA32.out; have := HAM.out; omega)
        have K4 := Lib.hid (nix_trans K3.out k4)
        have O5 := Lib.hid (ob.alloc (.cells #[.int .i64 q] 3))
        have HX4 := Lib.hid (show w4.heap.size = w4.heap.size from rfl)
        have K5 := Lib.hid (k4.alloc (.cells #[.int .i64 q] 3))
        have B1 := Lib.hid (show m + 1 ≤ maxLen by have := HM33.out; simp only [maxLen]; omega)
        have B2 := Lib.hid (show (m + 1) * 8 ≤ 140737488355328 by have := HM33.out; omega)
        have hex : ivs (0 :: exts A q A.length) ++ [.int .i64 q] = ivs (0 :: ext A q) := by unfold ext; rw [← List.cons_append, ivs_append]; rfl
        have HEX := Lib.hid hex
        clear ob k4 hex OB OA3
        go_wp2_with (refine wpList_app _ rfl _ _ 22 rfl w3.heap.size 3 (.int .i64 0) 1 8 Try.underlying22 info_int rfl (by decide) vb _ _ rfl O5.out _ 1 1 [.int .i64 q] rfl (src_one w4 _ _ rfl) B1.out B2.out K5.out.size ?_; intro v6 w6 o6 g6 n6; have K6 := Lib.hid (show Kept Nix w3 w6 from K5.out.grown g6 (fun kk hkk => .inr (O5.out.lt kk hkk).1)); have O6 := Lib.hid o6; clear o6 g6 n6)
        rw [HEX.out] at O6
        have HLL := Lib.hid ((ext_length A q).trans HAM.out)
        have HSN := Lib.hid (fun hw => sol_next HS.out HA32.out q HQB.out hw)
        have HLS := Lib.hid (les_down e q ⟨HS.out.lo, HS.out.hi⟩ HQB.out)
        have HLN := Lib.hid ((les_nums e q ⟨HS.out.lo, HS.out.hi⟩ HQB.out).2.2.2.1)
        have K26 := Lib.hid (nix_trans K3.out K6.out)
        clear K4 K5 O5 HEX HX4
        generalize ext A q = L at *
        refine rsol_l6 order e q m (.slice (some ⟨bx, ox, none⟩) l cx) v6 vo L _ w6 _ ⟨rfl, rfl, rfl, rfl, rfl, rfl, rfl⟩ rfl rfl rfl (sl_of_owns O6.out) HLL.out HM33.out ?_ ?_
        · clear f4
          rintro ⟨tm, df⟩ ⟨rfl, hs, e1, e6, e8, e10, e11⟩ e9 e14 hw
          simp only at hs e1 e6 e8 e10 e11 e9 e14
          obtain ⟨f6, hf, hg⟩ := fr_open hs
          have g1 := hg _ _ e1
          have g6 := hg _ _ e6
          have g8 := hg _ _ e8
          have g10 := hg _ _ e10
          have g11 := hg _ _ e11
          have g9 := hg _ _ e9
          have g14 := hg _ _ e14
          simp only [List.range, List.range.loop, List.map] at hf
          rw [g1, g6, g8, g10, g11, g9, g14] at hf
          clear g1 g6 g8 g10 g11 g9 g14 hg hs e1 e6 e8 e10 e11 e9 e14
          subst hf
          have HW := Lib.hid hw
          clear hw
          obtain ⟨p, fq, g, le, l1, l2, l3, l4, l5, l6, l7, l8⟩ := HLS.out
          have DN1 := Lib.hid (fun w => down_by p 1048576 (by decide) l7 w)
          have DN2 := Lib.hid (fun w => down_by g 1048576 (by decide) l8 w)
          rw [l2] at DN1
          have L4 := Lib.hid l4
          have L5 := Lib.hid l5
          obtain ⟨gb, gc, rfl, hgc, hgm, hg3, hg4⟩ := owns_pos O6.out (Nat.succ_pos m)
          obtain ⟨A1, c2, hf1, hf2, hsd⟩ := drop_one (sl_of_owns O6.out)
          have hown := World.ownsRow_made (base := w.heap.size) (e := 3) (size := 1) w6 #[] 0 (by have h1 := HK.out.size; have h2 := K26.out.size; omega) (by simp [maxLen]) (by simp)
          have HOWN := Lib.hid hown
          have HSRC := Lib.hid ((src_ivs hsd).1.alloc (.cells #[] 3))
          have BB := Lib.hid (show w.heap.size ≤ (w6.alloc (.cells #[] 3)).heap.size by have h1 := HK.out.size; have h2 := K26.out.size; simp; omega)
          have B3 := Lib.hid (show 0 + m ≤ maxLen by have := HM33.out; simp only [maxLen]; omega)
          have B4 := Lib.hid (show (0 + m) * 8 ≤ 140737488355328 by have := HM33.out; omega)
          rw [← l4] at l6
          clear hsd hown hgc hgm hg3 hg4 l2 l4 l5 l7 l8 HLS
          go_upto_region 36 with fail
          have HRO := Lib.hid (fun wx (k : Kept Nix w6 wx) => (nix_trans K26.out k).owns RK.out.1 (fun _ _ h => h))
          have HUL : us.length ≤ 33 := by have := RK.out.2.1; have := HTL.out; have := HA32.out; omega
          have C1 := Lib.hid (show us.length + 1 ≤ maxLen by simp only [maxLen]; omega)
          have C2 := Lib.hid (show (us.length + 1) * 24 ≤ 140737488355328 by omega)
          clear HUL
          go_upto_region 37 with (first
            | (refine wpList_app _ rfl _ _ 22 rfl w.heap.size 3 (.int .i64 0) 1 8 Try.underlying22 info_int rfl (by decide) (.slice (some ⟨w6.heap.size, 0, none⟩) 0 0) 0 [] rfl HOWN.out A1 _ c2 _ rfl HSRC.out B3.out B4.out BB.out ?_
               intro v7 w7 o7 g7 n7
               rw [Nat.zero_add, List.nil_append] at o7
               obtain ⟨ao7, c7, rfl, -, -⟩ := owns_shape o7
               have K7 := Lib.hid (show Kept Nix w6 w7 from kept_new g7); have O7 := Lib.hid o7; clear o7 g7 n7 HOWN HSRC
               have O8 := Lib.hid ((HRO.out w7 K7.out).alloc (.cells #[.slice ao7 m c7] 22))
               have B8 := Lib.hid (show w.heap.size ≤ (w7.alloc (.cells #[.slice ao7 m c7] 22)).heap.size by have h1 := HK.out.size; have h2 := K26.out.size; have h3 := K7.out.size; simp; omega))
            | (refine wpList_app _ rfl _ _ 26 rfl w.heap.size 22 (.slice none 0 0) 1 24 Try.underlying26 info_ints rfl (by decide) vo us.length us rfl O8.out (some ⟨w7.heap.size, 0, none⟩) 1 1 [.slice ao7 m c7] rfl (src_one w7 _ _ rfl) C1.out C2.out B8.out ?_
               intro v8 w8 o8 g8 n8; have O9 := Lib.hid o8; have G8 := Lib.hid g8; clear o8 g8 n8))
          clear hf1 hf2
          have hwm : wrap64 ((m : Int) + 1) = ((m + 1 : Nat) : Int) := by have := HM33.out; unfold wrap64; omega
          have HWM := Lib.hid hwm
          clear hwm
          go_wp2_with (first
            | (go_at_call 21; refine (DN1.out _).mono ?_; rintro e2 w9 ⟨rfl, rfl⟩; clear DN1)
            | (go_at_call 21; refine (DN2.out _).mono ?_; rintro e2 w9 ⟨rfl, rfl⟩; clear DN2))
          rw [L4.out, HWM.out]
          have hle : L.length = m := HLL.out
          have KA := Lib.hid (K7.out.alloc (.cells #[.slice ao7 m c7] 22))
          have K2A := Lib.hid (nix_trans K26.out KA.out)
          have OL := Lib.hid (show (w7.alloc (.cells #[.slice ao7 m c7] 22)).ownsRow w.heap.size 3 1 (.slice ao7 m c7) L.length (ivs L) from by rw [hle]; exact O7.out.alloc _)
          have OA6 := Lib.hid (owns_weak (base' := w.heap.size) (KA.out.owns O6.out (fun _ _ h => h)) (by have h1 := HK.out.size; have h2 := K3.out.size; omega))
          have HON2 := HON.out HQB.out HW.out HLN.out
          have HSN2 := HSN.out HW.out
          rw [L5.out] at HON2 HSN2
          refine ⟨⟨m + 1, L, T ++ [L], le, _, v8, _, ⟨rfl, rfl, rfl, rfl, rfl, rfl, rfl⟩, rfl, ?_, ?_, keep_ints O8.out G8.out (K2A.out.owns OX.out (fun _ _ h => h)), keep_ints O8.out G8.out OA6.out, RK.out.push K2A.out OL.out O9.out G8.out, ?_, HSN2, ?_, ?_⟩, ?_⟩
          · rw [hle]
          · rw [hle, ← HAM.out]; exact HLT.out
          · rw [hle, ← HAM.out]; exact HON2
          · rw [List.length_append, HTL.out, hle, ← HAM.out]; rfl
          · exact (nix_trans HK.out K2A.out).grown G8.out (fun k hk => .inr (O8.out.lt k hk).1)
          · exact nearer (show m < K + 1 by rw [← HAM.out]; exact Nat.succ_lt_succ HLT.out) rfl
        · clear f4
          rintro ⟨tm, df⟩ ⟨rfl, hs, e1, e6, e8, e10, e11⟩ e4 hw
          simp only at hs e4
          obtain ⟨f6, hf, hg⟩ := fr_open hs
          have g4 := hg _ _ e4
          simp only [List.range, List.range.loop, List.map] at hf
          rw [g4] at hf
          have HT := Lib.hid (HOUT.out (.inr (.inr hw)))
          clear g4 hg hs e1 e6 e8 e10 e11 e4 hw
          subst hf
          go_wp2
          go_ret
          exact HP.out _ _ _ (HT.out ▸ RK.out.kept K26.out) (nix_trans HK.out K26.out)
      · have HT : Hid (T = R) := Lib.hid (by have h := HE.out; have e0 : K - A.length = 0 := by omega
                                             rw [e0, slv, List.append_nil] at h; exact h)
        rcases H2 hlt with d1 | ⟨d1, d2, d3⟩ | ⟨d1, d2, d3, d4, d5⟩
        all_goals
          clear H1 H2 hlt
          go_wp2
          go_ret
          exact HP.out _ _ _ (HT.out ▸ RK.out) HK.out
  · have HP : Hid (∀ u us w', Rack w.heap.size w' u us [] → Kept Nix w w' → SolPost zs order w (.returned u) w') := Lib.hid (fun u us w' h k => ⟨u, us, rfl, by rw [rt_none h1]; exact h, k⟩)
    have HRN := Lib.hid (rack_nil w.heap.size w)
    cases zs with
    | nil =>
      clear hs hr
      go_enter Try.func13, Try.ntmps13
      go_wp2
      go_ret
      exact HP.out _ _ _ HRN.out (Kept.refl _ _)
    | cons z0 t =>
      have h0 : 0 < (z0 :: t).length := by simp
      obtain ⟨b0, o0, rfl, hc0⟩ := cell_kept hs 0 h0
      have c0 := hc0 w (Kept.refl _ w)
      rw [Nat.add_zero, List.getD_cons_zero] at c0
      have hz : z0 = 0 := by
        rw [List.getD_cons_zero] at h1
        rcases hr with h | ⟨h, _⟩
        · simp at h
        · rw [List.getD_cons_zero] at h; omega
      subst hz
      have e1 : (((0 :: t).length : Int) == 0) = false := beq_false_of_ne (by omega)
      clear hs hr hc0 h1 hm
      generalize (0 :: t).length = l at *
      go_enter Try.func13, Try.ntmps13
      go_wp2
      go_ret
      exact HP.out _ _ _ HRN.out (Kept.refl _ _)

end Go.Proofs.Ytdifaaimjiflgaa
