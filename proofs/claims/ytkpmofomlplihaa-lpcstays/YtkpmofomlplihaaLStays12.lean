/- The walk of LpcStays. -/
import Derived.Test.YtkpmofomlplihaaLNone12
namespace Go.Proofs.Ytkpmofomlplihaa
open Go.RowKit Bx

theorem td_one (x : List Int) (i : Nat) : td [1] 0 x (1 + i) = x.getD i 0 := by
  unfold td
  simp [ts, show 1 + i - 1 = i by omega]

theorem one_ok : lpcB 0 2 [1] = false := by kernel_rfl

theorem lft_stay (n : Int) (q : Nat) : lft [1] 0 (List.replicate (q + 1) n) = List.replicate q 0 := by
  apply getD_ext
  · rw [lft_length]; simp
  · intro i hi
    have hi2 : i < q := by rw [lft_length] at hi; simpa using hi
    rw [lft_get _ _ _ _ (by simpa using hi2)]
    have e : ∀ j, j < q + 1 → (List.replicate (q + 1) n).getD j 0 = n := fun j hj => by simp [List.getD_eq_getElem?_getD, hj]
    rw [show [(1 : Int)].length = 1 from rfl, td_one, e _ (by omega), e _ (by omega)]
    simp [List.getD_eq_getElem?_getD, hi2]

theorem stay_res (n : Int) (q : Nat) : lresE 0 2 [1] (List.replicate (q + 1) n) = 0 ∧ lresL 0 2 [1] (List.replicate (q + 1) n) = List.replicate q 0 := by
  have hl : [(1 : Int)].length ≤ (List.replicate (q + 1) n).length := by simp
  have hw : (lft [1] (0 : Int).toNat (List.replicate (q + 1) n)).any wide = false := by
    rw [show (0 : Int).toNat = 0 from rfl, lft_stay, List.any_eq_false]
    intro m hm
    obtain ⟨-, rfl⟩ := List.mem_replicate.1 hm
    decide
  exact ⟨lresE_ok one_ok hl hw, by rw [lresL_ok one_ok hl hw, show (0 : Int).toNat = 0 from rfl, lft_stay]⟩

theorem lft_two (a b : Int) : lft [1] 0 [a, b] = [b - a] := by
  have : lft [1] 0 [a, b] = [[a, b].getD 1 0 - td [1] 0 [a, b] (1 + 0)] := rfl
  rw [this, td_one]
  rfl

theorem two_res (a b : Int) : lresE 0 2 [1] [a, b] = (if wide (b - a) = true then 14 else 0) ∧ lresL 0 2 [1] [a, b] = (if wide (b - a) = true then [] else [b - a]) := by
  have hl : [(1 : Int)].length ≤ [a, b].length := by simp
  have e : (lft [1] (0 : Int).toNat [a, b]).any wide = wide (b - a) := by rw [show (0 : Int).toNat = 0 from rfl, lft_two]; simp
  cases hw : wide (b - a) with
  | true =>
    have h1 := lresE_wide (s := 0) (p := 2) one_ok hl (by rw [e, hw])
    exact ⟨h1, by unfold lresL; rw [h1]; rfl⟩
  | false => exact ⟨lresE_ok one_ok hl (by rw [e, hw]), by rw [lresL_ok one_ok hl (by rw [e, hw]), show (0 : Int).toNat = 0 from rfl, lft_two]; rfl⟩

theorem rep_next (n : Int) (i : Nat) : List.replicate (i + 1) n = List.replicate i n ++ [n] := List.replicate_succ'

theorem rep_bd {n : Int} (h : -1099511627776 ≤ n ∧ n ≤ 1099511627776) (m : Nat) : Bd 1099511627776 (List.replicate m n) := by
  apply bd_of_mem
  intro k hk
  obtain ⟨-, rfl⟩ := List.mem_replicate.1 hk
  exact h

def StayInv (va vb vn vm : Value) (g q b : Nat) (n : Int) (w : World) (a : Act) (w' : World) : Prop :=
  a.defers = [] ∧ a.tmps.size = 109 ∧ a.tmps[0]? = some vn ∧ a.tmps[1]? = some vm ∧ a.tmps[2]? = some va ∧ a.tmps[3]? = some vb ∧ a.tmps[9]? = some (.bool true) ∧ a.tmps[11]? = some (.pointer (some ⟨g, 0, none⟩)) ∧ ∃ i : Nat, i ≤ q + 1 ∧ a.tmps[13]? = some (.int .i64 (i : Int)) ∧ ∃ u, a.tmps[12]? = some u ∧ w'.ownsRow b 3 1 u i (ivs (List.replicate i n)) ∧ Kept Nix w w'

def StaySeen (va vb vc : Value) (g q : Nat) (w : World) (a : Act) (w' : World) : Prop :=
  a.defers = [] ∧ a.tmps.size = 109 ∧ a.tmps[2]? = some va ∧ a.tmps[3]? = some vb ∧ a.tmps[9]? = some (.bool true) ∧ a.tmps[11]? = some (.pointer (some ⟨g, 0, none⟩)) ∧ a.tmps[14]? = some vc ∧ ∃ i : Nat, i ≤ q ∧ a.tmps[16]? = some (.int .i64 (i : Int)) ∧ w' = w

theorem stay_nums {m : Int} (hm : (Lit.int .u8 m).wf = true) : ∃ q : Nat, q ≤ 49 ∧ m.tmod 50 = (q : Int) ∧ wrap64 (q : Int) = (q : Int) := by
  obtain ⟨p, rfl, hp⟩ := nat_u8 hm
  exact ⟨p % 50, by omega, by rw [Int.tmod_eq_emod_of_nonneg (by omega)]; omega, by rw [w64_in _ (by omega)]⟩

set_option maxRecDepth 10000 in
set_option maxHeartbeats 4000000 in
theorem walk_LpcStays (w : World) (n : Int) (_ : (Lit.int .i64 n).wf = true) (many : Int) (hm : (Lit.int .u8 many).wf = true) (a : Int) (_ : (Lit.int .i64 a).wf = true) (b : Int) (_ : (Lit.int .i64 b).wf = true) :
    Calls Try.prog 7 #[.int .i64 n, .int .u8 many, .int .i64 a, .int .i64 b] w fun e w' => e = .returned (.bool true) ∧ Kept Nix w w' := by
  obtain ⟨q, r1, r2, r3⟩ := stay_nums hm
  have HA := Lib.hid (awake_any w)
  have R1 := Lib.hid r1
  have R2 := Lib.hid (And.intro r2 r3)
  clear hm r1 r2 r3
  go_enter Try.func7, Try.ntmps7
  go_upto_region 2 with (go_at_call 10; refine HA.out.mono ?_; rintro e w1 ⟨rfl, k1⟩; have K1 := Lib.hid k1; clear k1 HA)
  have NR := Lib.hid (rnear_any _ [n, a, b] _ (sl_lit w1 [n, a, b] 3 rfl (by decide)))
  have K1' := Lib.hid (show Kept Nix w (w1.alloc (.cells (ivs [n, a, b]).toArray 3)) from K1.out.alloc _)
  go_upto_region 3 with (go_at_call 11; refine NR.out.mono ?_; rintro e w2 ⟨rfl, hw2⟩; have K2 := Lib.hid (show Kept Nix w w2 by rw [hw2]; exact K1'.out); clear hw2 NR)
  cases hn : near [n, a, b] with
  | false =>
    go_wp2
    go_ret
    exact ⟨rfl, K2.out⟩
  | true =>
    have hbd := near_bd hn
    have hbn := hbd 0 (by simp)
    have hba := hbd 1 (by simp)
    have hbb := hbd 2 (by simp)
    simp only [List.getD_cons_zero, List.getD_cons_succ] at hbn hba hbb
    have HBN := Lib.hid hbn
    have HBAB := Lib.hid (And.intro hba hbb)
    clear hn hbd hbn hba hbb
    have hsz : (w2.alloc (.cells #[.int .i64 1] 3)).heap.size = w2.heap.size + 1 := by simp
    have hb3 := heap_alloc_new (w2.alloc (.cells #[.int .i64 1] 3)) (.cells #[.int .i64 0, .int .i64 2, .slice (some ⟨w2.heap.size, 0, none⟩) 1 1] 24)
    rw [hsz] at hb3
    have HF3 := Lib.hid ((show Sl (w2.alloc (.cells #[.int .i64 1] 3)) (.slice (some ⟨w2.heap.size, 0, none⟩) 1 1) (ivs [1]) from sl_lit w2 [1] 1 rfl (by decide)).nix ((Kept.refl Nix _).alloc (.cells #[.int .i64 0, .int .i64 2, .slice (some ⟨w2.heap.size, 0, none⟩) 1 1] 24)))
    have K23 := Lib.hid (((Kept.refl Nix w2).alloc (.cells #[.int .i64 1] 3)).alloc (.cells #[.int .i64 0, .int .i64 2, .slice (some ⟨w2.heap.size, 0, none⟩) 1 1] 24))
    have HB3 := Lib.hid (fun w' (k : Kept Nix ((w2.alloc (.cells #[.int .i64 1] 3)).alloc (.cells #[.int .i64 0, .int .i64 2, .slice (some ⟨w2.heap.size, 0, none⟩) 1 1] 24)) w') => k.heap hb3 id)
    clear hb3 hsz
    go_upto_region 6 with fail
    generalize (w2.alloc (.cells #[.int .i64 1] 3)).alloc (.cells #[.int .i64 0, .int .i64 2, .slice (some ⟨w2.heap.size, 0, none⟩) 1 1] 24) = w3 at *
    have K3 := Lib.hid (nix_trans K2.out K23.out)
    generalize w2.heap.size + 1 = g at *
    generalize w2.heap.size = g2 at *
    go_wp2
    have HOWN := Lib.hid (World.ownsRow_nil w3 w3.heap.size 3 1)
    refine wp_loop (StayInv (.int .i64 a) (.int .i64 b) (.int .i64 n) (.int .u8 many) g q w3.heap.size n w3) (fun a _ => q + 1 - (intOf (a.tmps.getD 13 undef)).toNat) ?_ ?_
    · exact ⟨rfl, rfl, rfl, rfl, rfl, rfl, rfl, rfl, 0, Nat.zero_le _, rfl, _, rfl, HOWN.out, Kept.refl _ _⟩
    · clear HOWN
      rintro ⟨tm, df⟩ w4 ⟨rfl, hs, e0, e1, e2, e3, e9, e11, i, hi, e13, u, e12, ho, hk⟩
      simp only at hs e0 e1 e2 e3 e9 e11 e13 e12
      obtain ⟨f, hf, hg⟩ := fr_open hs
      have g0 := hg _ _ e0
      have g1 := hg _ _ e1
      have g2' := hg _ _ e2
      have g3 := hg _ _ e3
      have g9 := hg _ _ e9
      have g11 := hg _ _ e11
      have g13 := hg _ _ e13
      have g12 := hg _ _ e12
      simp only [List.range, List.range.loop, List.map] at hf
      rw [g0, g1, g2', g3, g9, g11, g13, g12] at hf
      clear g0 g1 g2' g3 g9 g11 g13 g12 hg hs e0 e1 e2 e3 e9 e11 e13 e12
      subst hf
      have HO := Lib.hid ho
      have HK := Lib.hid hk
      clear ho hk
      obtain ⟨r2, r3⟩ := R2.out
      by_cases hlt : i ≤ q
      · obtain ⟨m1, m2, m3, m4⟩ := none_step i 80 (by have := R1.out; omega) (Nat.le_refl _)
        have M1 := Lib.hid m1
        have M3 := Lib.hid m3
        have M4 := Lib.hid m4
        have HI := Lib.hid hlt
        have hdd : decide ((i : Int) ≤ (q : Int)) = true := decide_eq_true (by omega)
        have hdd2 : decide (i ≤ q) = true := decide_eq_true hlt
        have O5 := Lib.hid (HO.out.alloc (.cells #[.int .i64 n] 3))
        have HBS := Lib.hid (show w3.heap.size ≤ (w4.alloc (.cells #[.int .i64 n] 3)).heap.size from (HK.out.alloc _).size)
        clear hlt hi m1 m2 m3 m4
        go_wp2_with (refine wpList_app _ rfl _ _ 22 rfl w3.heap.size 3 (.int .i64 0) 1 8 Try.underlying22 info_int rfl (by decide) _ _ _ rfl O5.out _ 1 1 [.int .i64 n] rfl (src_one w4 _ _ rfl) M3.out M4.out HBS.out ?_
                     intro v6 w6 o6 g6 n6; have k6 : Kept Nix w3 w6 := (HK.out.alloc _).grown g6 (fun kk hkk => .inr (O5.out.lt kk hkk).1); have K6 := Lib.hid k6; have O6 := Lib.hid o6; clear k6 o6 g6 n6)
        rw [M1.out]
        refine ⟨⟨rfl, rfl, rfl, rfl, rfl, rfl, rfl, rfl, i + 1, Nat.succ_le_succ HI.out, rfl, v6, rfl, ?_, K6.out⟩, nearer (Nat.lt_succ_of_le HI.out) rfl⟩
        rw [rep_next, ivs_append]
        exact O6.out
      · have hie : i = q + 1 := by omega
        subst hie
        have hdd : decide (((q + 1 : Nat) : Int) ≤ (q : Int)) = false := decide_eq_false (by omega)
        have hdd2 : decide (q + 1 ≤ q) = false := decide_eq_false hlt
        obtain ⟨uo, uc, rfl, -, -⟩ := owns_shape HO.out
        have RS := Lib.hid (lres_any 0 2 _ _ [1] (List.replicate (q + 1) n) w4 (HF3.out.nix HK.out) (sl_of_owns HO.out) (rep_bd HBN.out _) (by rw [List.length_replicate]; have := R1.out; omega))
        unfold LResPost at RS
        rw [(stay_res n q).1, (stay_res n q).2, List.length_replicate] at RS
        have HB4 := Lib.hid (HB3.out _ HK.out)
        clear hlt hi
        have hq1 : wrap64 (((q + 1 : Nat) : Int) - 1) = (q : Int) := by have := R1.out; rw [w64_in _ (by omega)]; omega
        have hqq : ((q : Int) != (q : Int)) = false := bne_self_eq_false _
        generalize hqs : q + 1 = qs at *
        have HQS := Lib.hid hqs
        clear hqs
        go_wp2_with (first
          | (refine wpList_load_row rfl 24 _ rfl g rfl 24 _ (0, 0) _ HB4.out Try.underlying24 rfl size_lpc ?_)
          | (go_at_call 12; refine RS.out.mono ?_; rintro e w5 ⟨u5, rfl, o5, k5⟩; clear RS; obtain ⟨uo5, uc5, rfl, -, -⟩ := owns_shape o5; have K35 := Lib.hid (nix_trans HK.out k5); have S5 := Lib.hid (sl_of_owns o5); clear k5 o5))
        clear hdd hdd2 hq1 hqq r2 r3
        have HR2 := Lib.hid (fun w' (k : Kept Nix w3 w') (u' : Value) (h : Sl w' u' (ivs [a, b])) => lres_any 0 2 _ u' [1] [a, b] w' (HF3.out.nix k) h (bd_of_mem (by have := HBAB.out; intro z hz; simp only [List.mem_cons, List.not_mem_nil, or_false] at hz; omega)) (by simp))
        refine wp_loop (StaySeen (.int .i64 a) (.int .i64 b) (.slice uo5 q uc5) g q w5) (fun a _ => q - (intOf (a.tmps.getD 16 undef)).toNat) ?_ ?_
        · exact ⟨rfl, rfl, rfl, rfl, rfl, rfl, rfl, 0, Nat.zero_le _, rfl, rfl⟩
        · rintro ⟨tm, df⟩ w6 ⟨rfl, hs, e2, e3, e9, e11, e14, i, hi, e16, rfl⟩
          simp only at hs e2 e3 e9 e11 e14 e16
          obtain ⟨f2, hf, hg⟩ := fr_open hs
          have g2' := hg _ _ e2
          have g3 := hg _ _ e3
          have g9 := hg _ _ e9
          have g11 := hg _ _ e11
          have g14 := hg _ _ e14
          have g16 := hg _ _ e16
          simp only [List.range, List.range.loop, List.map] at hf
          rw [g2', g3, g9, g11, g14, g16] at hf
          clear g2' g3 g9 g11 g14 g16 hg hs e2 e3 e9 e11 e14 e16
          subst hf
          by_cases hlt : i < q
          · obtain ⟨b1, o1, rfl, hc1⟩ := cell_kept S5.out i (by rw [List.length_replicate]; exact hlt)
            have x1 := hc1 _ (Kept.refl _ _)
            rw [show (List.replicate q (0 : Int)).getD i 0 = 0 by simp [List.getD_eq_getElem?_getD, hlt]] at x1
            obtain ⟨m1, m2, -, -⟩ := none_step i q hlt (by have := R1.out; omega)
            have M1 := Lib.hid m1
            have HI := Lib.hid hlt
            have hdd : decide (i < q) = true := decide_eq_true hlt
            clear hc1 hlt hi m1
            go_wp2
            rw [M1.out]
            exact ⟨⟨rfl, rfl, rfl, rfl, rfl, rfl, rfl, i + 1, HI.out, rfl, rfl⟩, nearer HI.out rfl⟩
          · have hie : i = q := by omega
            subst hie
            have hdd : decide (i < i) = false := decide_eq_false hlt
            have hd := HBAB.out
            obtain ⟨d, hde⟩ : ∃ d, b - a = d := ⟨_, rfl⟩
            have hwd : wrap64 (b - a) = d := (w64_in _ (by omega)).trans hde
            have RS := Lib.hid (HR2.out _ (K35.out.alloc (.cells (ivs [a, b]).toArray 3)) _ (sl_lit w6 [a, b] 2 rfl (by decide)))
            have HB6 := Lib.hid (HB3.out _ (K35.out.alloc (.cells (ivs [a, b]).toArray 3)))
            have K36 := Lib.hid (K35.out.alloc (.cells (ivs [a, b]).toArray 3))
            unfold LResPost at RS
            rw [(two_res a b).1, (two_res a b).2, hde] at RS
            clear hlt hi hd hde
            by_cases hw1 : 2147483648 ≤ d ∨ d ≤ -2147483648
            · have hwt : wide d = true := by unfold wide; simp only [Bool.or_eq_true, decide_eq_true_eq]; omega
              rw [hwt, if_pos rfl, if_pos rfl] at RS
              clear hwt
              have hcs : decide (2147483648 ≤ d) = true ∨ (decide (2147483648 ≤ d) = false ∧ decide (d ≤ -2147483648) = true) := by simp only [decide_eq_true_eq, decide_eq_false_iff_not]; omega
              clear hw1
              go_upto_region 20 with (first
                | (refine wpList_load_row rfl 24 _ rfl g rfl 24 _ (0, 0) _ HB6.out Try.underlying24 rfl size_lpc ?_)
                | (go_at_call 12; refine RS.out.mono ?_; rintro e w7 ⟨u7, rfl, o7, k7⟩; clear RS; have KW := Lib.hid (nix_trans K3.out (nix_trans K36.out k7)); clear k7 o7))
              rcases hcs with h1 | ⟨h1, h2⟩
              all_goals go_wp2
              all_goals go_ret
              all_goals exact ⟨rfl, KW.out⟩
            · have hwt : wide d = false := by unfold wide; simp only [Bool.or_eq_false_iff, decide_eq_false_iff_not]; omega
              rw [hwt, if_neg (by decide), if_neg (by decide)] at RS
              clear hwt
              have h1 : decide (2147483648 ≤ d) = false := decide_eq_false (by omega)
              have h2 : decide (d ≤ -2147483648) = false := decide_eq_false (by omega)
              clear hw1
              go_upto_region 20 with (first
                | (refine wpList_load_row rfl 24 _ rfl g rfl 24 _ (0, 0) _ HB6.out Try.underlying24 rfl size_lpc ?_)
                | (go_at_call 12; refine RS.out.mono ?_; rintro e w7 ⟨u7, rfl, o7, k7⟩; clear RS; have KW := Lib.hid (nix_trans K3.out (nix_trans K36.out k7)); have II := Lib.hid (ints_eq ((sl_of_owns o7).nix ((Kept.refl _ w7).alloc _)) (sl_lit w7 [d] 1 rfl (by decide)) (by simp) rfl); clear k7 o7))
              go_wp2_with (go_at_call 16; refine II.out.mono ?_; rintro e w8 ⟨rfl, n8, rfl⟩; clear II)
              go_ret
              exact ⟨rfl, (KW.out.alloc _).drewN n8⟩

end Go.Proofs.Ytkpmofomlplihaa
