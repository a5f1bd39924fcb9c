/- The walk of QuantWhole. -/
import Derived.Test.YtgcokligilfkgaaQuArg
namespace Go.Proofs.Ytgcokligilfkgaa
open Go.RowKit Bx

/-- Wholes times numbers of few bits. -/
def rem1 (z : Int) : Int := z.tmod 101
def whl (ls : List Int) : List Int := ls.map (fun z => rem1 z * 1048576)
def anyN (ls : List Int) : Bool := ls.any (fun z => rem1 z != 0)

theorem rem1_bd (z : Int) (h : -128 ≤ z ∧ z ≤ 127) : -100 ≤ rem1 z ∧ rem1 z ≤ 100 := by
  unfold rem1
  have h1 := Int.tmod_lt_of_pos z (show (0 : Int) < 101 by decide)
  have h2 : -101 < z.tmod 101 := by
    have h3 := Int.tmod_lt_of_pos (-z) (show (0 : Int) < 101 by decide)
    rw [Int.neg_tmod] at h3
    omega
  omega

theorem whl_length (ls : List Int) : (whl ls).length = ls.length := by simp [whl]
theorem whl_get (ls : List Int) (i : Nat) (h : i < ls.length) : (whl ls).getD i 0 = rem1 (ls.getD i 0) * 1048576 := by
  unfold whl
  simp only [List.getD_eq_getElem?_getD, List.getElem?_map, List.getElem?_eq_getElem h, Option.map_some, Option.getD_some]
theorem whl_take (ls : List Int) (i : Nat) (h : i < ls.length) : whl (ls.take (i + 1)) = whl (ls.take i) ++ [rem1 (ls.getD i 0) * 1048576] := by
  rw [List.take_succ_eq_append_getElem h]
  unfold whl
  rw [List.map_append, List.map_cons, List.map_nil]
  simp only [List.getD, List.getElem?_eq_getElem h, Option.getD_some]
theorem any_take (ls : List Int) (i : Nat) (h : i < ls.length) : anyN (ls.take (i + 1)) = (anyN (ls.take i) || (rem1 (ls.getD i 0) != 0)) := by
  rw [List.take_succ_eq_append_getElem h]
  unfold anyN
  rw [List.any_append, List.any_cons, List.any_nil, Bool.or_false]
  simp only [List.getD, List.getElem?_eq_getElem h, Option.getD_some]

theorem far_any {ls : List Int} (h : anyN ls = false) : far (whl ls) = 0 := by
  have := far_le (whl ls) 0 (fun i hi => by
    rw [whl_length] at hi
    rw [whl_get ls i hi]
    have h1 := List.any_eq_false.1 h (ls.getD i 0) (by simp only [List.getD, List.getElem?_eq_getElem hi, Option.getD_some]; exact List.getElem_mem hi)
    have h2 : rem1 (ls.getD i 0) = 0 := by simpa using h1
    rw [h2]
    decide)
  omega

theorem far_some {ls : List Int} (h : anyN ls = true) : ¬ far (whl ls) = 0 := by
  obtain ⟨z, hz, hn⟩ := List.any_eq_true.1 h
  obtain ⟨i, hi, rfl⟩ := List.mem_iff_getElem.1 hz
  have h1 := far_get (whl ls) i (by rw [whl_length]; exact hi)
  rw [whl_get ls i hi] at h1
  have h2 : ls.getD i 0 = ls[i] := by simp [List.getD, hi]
  rw [h2] at h1
  have h3 : rem1 ls[i] ≠ 0 := bne_iff_ne.1 hn
  omega

theorem whl_bd {ls : List Int} (hb : ∀ i, i < ls.length → -128 ≤ ls.getD i 0 ∧ ls.getD i 0 ≤ 127) : far (whl ls) ≤ 104857600 := far_le _ _ (fun i hi => by
  rw [whl_length] at hi
  rw [whl_get ls i hi]
  have := rem1_bd _ (hb i hi)
  omega)

/-- Nothing is ever carried. -/
theorem car_whl {ls : List Int} {s : Nat} (f : Fit (2 ^ 14) (2 ^ s) (whl ls)) : ∀ i, i ≤ ls.length → car (2 ^ 14) (2 ^ s) (whl ls) i = 0
  | 0, _ => rfl
  | i + 1, hi => by
    have h0 := car_whl f i (by omega)
    have hf := f.fits i (by rw [whl_length]; omega)
    have hg := whl_get ls i (by omega)
    have e : (whl ls).getD i 0 * 2 ^ s = (rem1 (ls.getD i 0) * 2 ^ s) * 1048576 := by rw [hg, Int.mul_assoc, Int.mul_comm 1048576, ← Int.mul_assoc]
    rw [car_succ]
    unfold wnt
    rw [h0, e]
    rw [e] at hf
    generalize rem1 (ls.getD i 0) * 2 ^ s = t at *
    simp only [show (2 : Int) ^ 14 = 16384 from rfl] at hf ⊢
    unfold tell
    omega

theorem tell_whl {ls : List Int} {s : Nat} (f : Fit (2 ^ 14) (2 ^ s) (whl ls)) (i : Nat) (hi : i < ls.length) : (tolds (2 ^ 14) (2 ^ s) (whl ls)).getD i 0 * 1048576 = (whl ls).getD i 0 * 2 ^ s := by
  have h0 := car_whl f i (by omega)
  have h1 := car_whl f (i + 1) (by omega)
  rw [tolds_get _ _ _ i (by rw [whl_length]; exact hi)]
  rw [car_succ] at h1
  unfold wnt at h1 ⊢
  rw [h0] at h1 ⊢
  omega

/-- What all comes to. -/
theorem whole_cases {ls : List Int} (h1 : 1 ≤ ls.length) (h32 : ls.length ≤ 32) (hb : ∀ i, i < ls.length → -128 ≤ ls.getD i 0 ∧ ls.getD i 0 ≤ 127) : (anyN ls = false ∧ qz (whl ls) 15 = (0, 0, [], 6)) ∨
    ∃ (s : Nat) (L : List Int), anyN ls = true ∧ 7 ≤ s ∧ s ≤ 15 ∧ qz (whl ls) 15 = ((s : Int), 15, L, 0) ∧ L.length = ls.length ∧ ∀ i, i < ls.length → L.getD i 0 * 1048576 = (whl ls).getD i 0 * 2 ^ s ∧ -16384 ≤ L.getD i 0 ∧ L.getD i 0 ≤ 16383 := by
  have hg : qz (whl ls) ((15 : Nat) : Int) = qgood (whl ls) 15 := qz_good (by rw [whl_length]; omega)
  have hf := whl_bd hb
  cases ha : anyN ls with
  | false => exact .inl ⟨rfl, hg.trans (qgood_zero (far_any ha))⟩
  | true =>
    cases hs : shOf (far (whl ls)) 15 with
    | none => exact absurd (show far (whl ls) * 2 ^ 0 < 2 ^ (15 + 19) by omega) (shAt_none hs 0 (by decide))
    | some s =>
      obtain ⟨a1, a2, a3⟩ := shAt_some hs
      have f := (fit_of (by decide) (by decide) hs).2
      refine .inr ⟨s, tolds (2 ^ 14) (2 ^ s) (whl ls), rfl, ?_, by omega, hg.trans (qgood_some hs (far_some ha)), by rw [tolds_length, whl_length], fun i hi => ⟨tell_whl f i hi, ?_⟩⟩
      · by_cases h7 : 7 ≤ s
        · exact h7
        · exact absurd (show far (whl ls) * 2 ^ 7 < 2 ^ (15 + 19) by omega) (a3 7 (by omega) (by decide))
      · rw [tolds_get _ _ _ i (by rw [whl_length]; exact hi)]
        have := tell_in (2 ^ 14) (wnt (2 ^ 14) (2 ^ s) (whl ls) i) (by decide)
        omega

theorem wf_i8 {x : Int} (h : (Lit.int .i8 x).wf = true) : -128 ≤ x ∧ x ≤ 127 := by
  simp [Lit.wf, IntKind.min, IntKind.max, IntKind.bits, IntKind.signed] at h
  omega

theorem whl_wf {ls : List Int} (hb : ∀ i, i < ls.length → -128 ≤ ls.getD i 0 ∧ ls.getD i 0 ≤ 127) : ∀ n ∈ whl ls, (Lit.int .i64 n).wf = true := by
  intro n hn
  obtain ⟨i, hi, rfl⟩ := List.mem_iff_getElem.1 hn
  rw [whl_length] at hi
  have h1 := whl_get ls i hi
  simp only [List.getD, List.getElem?_eq_getElem (show i < (whl ls).length by rw [whl_length]; exact hi), Option.getD_some] at h1
  have h2 := rem1_bd _ (hb i hi)
  rw [h1]
  simp only [List.getD] at h2 ⊢
  simp [Lit.wf, IntKind.min, IntKind.max, IntKind.bits, IntKind.signed]
  omega

def WhInv (v : Value) (ls : List Int) (l : Nat) (b : Nat) (w : World) (a : Act) (w' : World) : Prop :=
  a.defers = [] ∧ a.tmps.size = 92 ∧ a.tmps[0]? = some v ∧ a.tmps[3]? = some (.bool true) ∧ ∃ i : Nat, i ≤ l ∧ a.tmps[6]? = some (.int .i64 (i : Int)) ∧ a.tmps[5]? = some (.bool (anyN (ls.take i))) ∧ Kept Nix w w' ∧ ∃ u, a.tmps[4]? = some u ∧ w'.ownsRow b 3 1 u i (ivs (whl (ls.take i)))

theorem wh_nums (x : Int) (h : -128 ≤ x ∧ x ≤ 127) : ∃ n y : Int, rem1 x = n ∧ wrap64 x = x ∧ x.tmod 101 = n ∧ wrap64 (n * 1048576) = y ∧ rem1 x * 1048576 = y := by
  have h1 := rem1_bd x h
  exact ⟨rem1 x, rem1 x * 1048576, rfl, w64_in _ (by omega), rfl, w64_in _ (by omega), rfl⟩

theorem wh_ends {s : Nat} {T x : Int} (hs : s ≤ 15) (h : T * 1048576 = x * 2 ^ s) (h1 : -16384 ≤ T) (h2 : T ≤ 16383) : ∃ M Y : Int, IntKind.i64.wrap (2 ^ min s 64) = M ∧ IntKind.i64.wrap (T * 1048576) = Y ∧ IntKind.i64.wrap (x * M) = Y := by
  have hp1 := pw2 0 s (by omega)
  have hp2 := pw2 s 15 hs
  refine ⟨2 ^ s, T * 1048576, ?_, ?_, ?_⟩
  · rw [Nat.min_eq_left (show s ≤ 64 by omega), IntKind.wrap_i64]
    omega
  · rw [IntKind.wrap_i64]; omega
  · rw [← h, IntKind.wrap_i64]; omega

def WhInv2 (vu : Value) (l g : Nat) (w : World) (a : Act) (w' : World) : Prop :=
  a.defers = [] ∧ a.tmps.size = 92 ∧ a.tmps[3]? = some (.bool true) ∧ a.tmps[4]? = some vu ∧ a.tmps[8]? = some (.pointer (some ⟨g, 0, none⟩)) ∧ ∃ i : Nat, i ≤ l ∧ a.tmps[10]? = some (.int .i64 (i : Int)) ∧ ∃ n, w' = w.drewN n

set_option maxRecDepth 10000 in
set_option maxHeartbeats 2000000 in
theorem walk_QuantWhole (w : World) (v : Value) (ls : List Int) (hz : Sl w v (ls.map (Value.int .i8))) (hw : ∀ n ∈ ls, (Lit.int .i8 n).wf = true) :
    Calls Try.prog 7 #[v] w fun e w' => e = .returned (.bool true) ∧ Kept Nix w w' := by
  have HA := awake_any w
  have HBB := Lib.hid (show ∀ i, i < ls.length → -128 ≤ ls.getD i 0 ∧ ls.getD i 0 ≤ 127 from fun i hi => wf_i8 (hw _ (by simp only [List.getD, List.getElem?_eq_getElem hi, Option.getD_some]; exact List.getElem_mem hi)))
  obtain ⟨ao, ca, rfl, hc, hm, hp⟩ := hz.ints
  have HP := Lib.hid hp
  clear hz hc hm hp hw
  go_enter Try.func7, Try.ntmps7
  go_upto_region 2 with (first
    | (go_at_call 8; refine HA.mono ?_; rintro e w1 ⟨rfl, k1⟩; have K1 := Lib.hid k1; clear k1 HA))
  by_cases h0 : ls.length = 0
  · have hd : ((ls.length : Int) == 0) = true := by rw [h0]; rfl
    clear h0
    go_wp2
    go_ret
    exact ⟨rfl, K1.out⟩
  have hd0 : ((ls.length : Int) == 0) = false := beq_false_of_ne (by omega)
  by_cases hlen : 32 < ls.length
  · have hd : decide ((32 : Int) < (ls.length : Int)) = true := decide_eq_true (by omega)
    clear hlen h0
    go_wp2
    go_ret
    exact ⟨rfl, K1.out⟩
  have hd : decide ((32 : Int) < (ls.length : Int)) = false := decide_eq_false (by omega)
  have HL := Lib.hid (show ls.length ≤ 32 by omega)
  have WC := Lib.hid (whole_cases (by omega) HL.out HBB.out)
  clear hlen h0
  generalize hl : ls.length = l at *
  have HLL := Lib.hid hl
  clear hl
  go_wp2
  clear hd hd0
  refine wp_loop (WhInv (.slice ao l ca) ls l w.heap.size w) (fun a _ => l - (intOf (a.tmps.getD 6 undef)).toNat) ?_ ?_
  · exact ⟨rfl, rfl, rfl, rfl, 0, Nat.zero_le _, rfl, rfl, K1.out, _, rfl, World.ownsRow_nil _ _ _ _⟩
  · rintro ⟨tm, df⟩ w2 ⟨rfl, hs, h0, h3, i, hi, h6, h5, hk, u, h4, ho⟩
    simp only at hs h0 h3 h4 h5 h6
    obtain ⟨f, hf, hg⟩ := fr_open hs
    have e0 := hg _ _ h0
    have e3 := hg _ _ h3
    have e4 := hg _ _ h4
    have e5 := hg _ _ h5
    have e6 := hg _ _ h6
    simp only [List.range, List.range.loop, List.map] at hf
    rw [e0, e3, e4, e5, e6] at hf
    clear e0 e3 e4 e5 e6 hg hs h0 h3 h4 h5 h6
    subst hf
    have HK := Lib.hid hk
    have HO := Lib.hid ho
    clear hk ho
    by_cases hlt : i < l
    · obtain ⟨b1, o1, rfl, hb1, hc1⟩ := HP.out (by omega)
      have x1 := (World.cell?_of_block (HK.out.block _ hb1 id)).trans (hc1 i hlt)
      have hi1 : (i : Int) < (l : Int) := by omega
      have hdd : decide (i < l) = true := decide_eq_true hlt
      have hw1 : wrap64 ((i : Int) + 1) = ((i + 1 : Nat) : Int) := by have := HL.out; unfold wrap64; omega
      have HW1 := Lib.hid hw1
      have HI := Lib.hid hlt
      have HT := Lib.hid (whl_take ls i (by rw [HLL.out]; exact hlt))
      have HAT := Lib.hid (any_take ls i (by rw [HLL.out]; exact hlt))
      obtain ⟨n, y, n1, n2, n3, n4, n5⟩ := wh_nums _ (HBB.out i hlt)
      rw [n5] at HT
      rw [n1] at HAT
      clear hc1 hb1 hlt hi hw1 n1 n5
      generalize ls.getD i 0 = x at *
      generalize anyN (ls.take i) = A at *
      have O8 := Lib.hid (HO.out.alloc (.cells #[.int .i64 y] 3))
      have HB1 := Lib.hid (show i + 1 ≤ maxLen by have := HI.out; have := HL.out; simp only [maxLen]; omega)
      have HB2 := Lib.hid (show (i + 1) * 8 ≤ 140737488355328 by have := HI.out; have := HL.out; omega)
      have HBS := Lib.hid (show w.heap.size ≤ (w2.alloc (.cells #[.int .i64 y] 3)).heap.size by have h1 := HK.out.size; simp; omega)
      cases A
      all_goals cases hn0 : (n != 0)
      all_goals go_wp2_with (refine wpList_app _ rfl _ _ 22 rfl w.heap.size 3 (.int .i64 0) 1 8 Try.underlying22 info_int rfl (by decide) u i (ivs (whl (ls.take i))) rfl O8.out (some ⟨w2.heap.size, 0, none⟩) 1 1 [.int .i64 y] rfl (src_one w2 _ _ rfl) HB1.out HB2.out HBS.out ?_; intro v6 w6 o6 g6 n6; have O6 := Lib.hid o6; have G6 := Lib.hid g6; clear o6 g6 n6)
      all_goals rw [HW1.out]
      all_goals refine ⟨⟨rfl, rfl, rfl, rfl, i + 1, HI.out, rfl, ?_, (HK.out.alloc _).grown G6.out (fun k hk => .inr (O8.out.lt k hk).1), v6, rfl, ?_⟩, nearer HI.out rfl⟩
      all_goals first
        | (rw [HT.out, show ivs (whl (ls.take i) ++ [y]) = ivs (whl (ls.take i)) ++ [.int .i64 y] by simp [ivs]]; exact O6.out)
        | (rw [HAT.out, hn0]; rfl)
    · have hdd : decide (i < l) = false := decide_eq_false hlt
      have hie : i = l := by omega
      subst hie
      have hdz : ls.take i = ls := List.take_of_length_le (Nat.le_of_eq HLL.out)
      rw [hdz] at HO ⊢
      obtain ⟨bo, cb, rfl, -, -⟩ := owns_shape HO.out
      have SB := Lib.hid (sl_of_owns HO.out)
      have QU := Lib.hid (quant_any _ (whl ls) 15 w2 SB.out (whl_wf (fun j hj => HBB.out j (by rw [HLL.out] at hj; exact hj))))
      unfold QPost QPostR at QU
      clear hi hlt hdz
      rcases WC.out with ⟨ha, hq⟩ | ⟨s, L, ha, h7, h15, hq, hll, hT⟩
      · rw [hq] at QU
        simp only at QU
        rw [ha]
        clear ha hq
        go_upto_region 13 with (first
          | (go_at_call 10; refine QU.out.mono ?_; rintro e w3 ⟨u3, rfl, o3, k3⟩; clear QU
             obtain ⟨uo, uc, rfl, -, -⟩ := owns_shape o3
             have K3 := Lib.hid (nix_trans HK.out k3); clear o3 k3)
          | (refine wpList_store_row rfl 26 _ _ rfl _ _ rfl rfl 26 _ (heap_alloc_new w3 _) size_lpc rfl (one_lpc _ _ _ _ _) ?_))
        obtain ⟨k4, -⟩ := put_lpc w3 0 0 (.slice uo ([] : List Int).length uc) _ rfl
        generalize World.setRow _ _ _ = w4 at *
        have K4 := Lib.hid (nix_trans K3.out k4)
        clear k4
        go_wp2
        go_ret
        exact ⟨rfl, K4.out⟩
      · rw [hq] at QU
        simp only at QU
        rw [ha]
        rw [hll] at QU
        have HS := Lib.hid (And.intro h7 h15)
        have HTT := Lib.hid hT
        have HLT := Lib.hid hll
        have hs1 : decide ((s : Int) < 7) = false := decide_eq_false (by omega)
        have hne : ((i : Int) != (i : Int)) = false := bne_self_eq_false _
        clear ha hq h7 h15 hll hT
        go_upto_region 13 with (first
          | (go_at_call 10; refine QU.out.mono ?_; rintro e w3 ⟨u3, rfl, o3, k3⟩; clear QU
             obtain ⟨uo, uc, rfl, -, -⟩ := owns_shape o3
             have K3 := Lib.hid k3; have S3 := Lib.hid (sl_of_owns o3); clear o3 k3)
          | (refine wpList_store_row rfl 26 _ _ rfl _ _ rfl rfl 26 _ (heap_alloc_new w3 _) size_lpc rfl (one_lpc _ _ _ _ _) ?_))
        obtain ⟨k4, hc4⟩ := put_lpc w3 (s : Int) 15 (.slice uo i uc) _ rfl
        generalize World.setRow _ _ _ = w4 at *
        generalize w3.heap.size = g at *
        have K24 := Lib.hid (nix_trans K3.out k4)
        have K4 := Lib.hid (nix_trans HK.out K24.out)
        have S4 := Lib.hid (S3.out.nix k4)
        have B4 := Lib.hid (SB.out.nix K24.out)
        have C4 := Lib.hid (fun n => (hc4 (w4.drewN n) ((Kept.refl _ _).drewN n)).2)
        clear hc4 k4
        obtain ⟨y0, y1, y2⟩ := C4.out 0
        rw [show w4.drewN 0 = w4 from rfl] at y0 y1 y2
        go_wp2
        clear y0 y1 y2 hs1 hne
        refine wp_loop (WhInv2 (.slice bo i cb) i g w4) (fun a _ => i - (intOf (a.tmps.getD 10 undef)).toNat) ?_ ?_
        · exact ⟨rfl, rfl, rfl, rfl, rfl, 0, Nat.zero_le _, rfl, 0, rfl⟩
        · clear hdd
          rintro ⟨tm, df⟩ w5 ⟨rfl, hs, h3, h4, h8, j, hj, h10, n1, rfl⟩
          simp only at hs h3 h4 h8 h10
          obtain ⟨f2, hf, hg⟩ := fr_open hs
          have e3 := hg _ _ h3
          have e4 := hg _ _ h4
          have e8 := hg _ _ h8
          have e10 := hg _ _ h10
          simp only [List.range, List.range.loop, List.map] at hf
          rw [e3, e4, e8, e10] at hf
          clear e3 e4 e8 e10 hg hs h3 h4 h8 h10
          subst hf
          by_cases hlt : j < i
          · obtain ⟨c0, -, c2⟩ := C4.out n1
            obtain ⟨b1', o1, rfl, hc1⟩ := cell_kept S4.out j (by rw [HLT.out]; exact hlt)
            obtain ⟨b2', o2, rfl, hc2⟩ := cell_kept B4.out j (by rw [whl_length, HLL.out]; exact hlt)
            have x1 := hc1 (w4.drewN n1) ((Kept.refl _ _).drewN n1)
            have x2 := hc2 (w4.drewN n1) ((Kept.refl _ _).drewN n1)
            obtain ⟨t1, t2, t3⟩ := HTT.out j hlt
            have hi1 : (j : Int) < (i : Int) := by omega
            have hdd : decide (j < i) = true := decide_eq_true hlt
            have hw1 : wrap64 ((j : Int) + 1) = ((j + 1 : Nat) : Int) := by have := HL.out; unfold wrap64; omega
            have HW1 := Lib.hid hw1
            have HI := Lib.hid hlt
            obtain ⟨M, Y, m1, m2, m3⟩ := wh_ends HS.out.2 t1 t2 t3
            have m4 : (Y != Y) = false := bne_self_eq_false _
            clear hc1 hc2 hlt hj hw1 t1 t2 t3
            generalize L.getD j 0 = T at *
            generalize (whl ls).getD j 0 = x at *
            generalize hw5 : w4.drewN n1 = w5 at *
            have HW5 := Lib.hid hw5
            clear hw5
            go_wp2
            go_quiet (fail)
            clear m1 m2 m3 m4
            go_wp2
            rw [HW1.out]
            exact ⟨⟨rfl, rfl, rfl, rfl, rfl, j + 1, HI.out, rfl, n1 + nq, by rw [← HW5.out, World.drewN_drewN]⟩, nearer HI.out rfl⟩
          · have hdd : decide (j < i) = false := decide_eq_false hlt
            have hie : j = i := by omega
            subst hie
            clear hj hlt
            go_wp2
            go_ret
            exact ⟨rfl, K4.out.drewN _⟩

end Go.Proofs.Ytgcokligilfkgaa
