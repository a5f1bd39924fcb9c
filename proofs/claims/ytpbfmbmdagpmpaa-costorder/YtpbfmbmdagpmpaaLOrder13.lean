/- The walk of CostOrder. -/
import Derived.Test.YtpbfmbmdagpmpaaAwake13
import Derived.Test.YtpbfmbmdagpmpaaCostPerm
import Derived.Test.YtpbfmbmdagpmpaaArgs
namespace Go.Proofs.Ytpbfmbmdagpmpaa
open Go.RowKit Bx

def OrdInv (v : Value) (most a : Int) (l b : Nat) (Y : List Int) (w : World) (a' : Act) (w' : World) : Prop :=
  a'.defers = [] ∧ a'.tmps.size = 89 ∧ a'.tmps[0]? = some v ∧ a'.tmps[1]? = some (.int .i64 most) ∧ a'.tmps[2]? = some (.int .u8 a) ∧ a'.tmps[7]? = some (.bool true) ∧ ∃ i : Nat, i ≤ l ∧ a'.tmps[10]? = some (.int .i64 (i : Int)) ∧ ∃ u, a'.tmps[9]? = some u ∧ w'.ownsRow b 3 1 u i (ivs (Y.take i)) ∧ Kept Nix w w'

theorem ord_step {x : List Int} {a : Int} (ha : (Lit.int .u8 a).wf = true) (hl : x.length ≤ 100) {i : Nat} (hi : i < x.length) : ∃ s q : Nat, wrap64 a = a ∧ wrap64 ((i : Int) + a) = (s : Int) ∧ (s : Int).tmod (x.length : Int) = (q : Int) ∧ q < x.length ∧ x.getD q 0 = (turn x (a.toNat % x.length)).getD i 0 ∧ wrap64 ((i : Int) + 1) = ((i + 1 : Nat) : Int) ∧ i + 1 ≤ maxLen ∧ (i + 1) * 8 ≤ 140737488355328 := by
  obtain ⟨p, rfl, hp⟩ := nat_u8 ha
  refine ⟨i + p, (i + p) % x.length, by rw [w64_in _ (by omega)], by rw [w64_in _ (by omega)]; omega, ?_, Nat.mod_lt _ (by omega), ?_, by rw [w64_in _ (by omega)]; omega, by simp only [maxLen]; omega, by omega⟩
  · rw [Int.tmod_eq_emod_of_nonneg (by omega)]; omega
  · rw [turn_get x _ i (Nat.mod_lt _ (by omega)) hi, Int.toNat_natCast, Nat.add_mod_mod]

set_option maxRecDepth 10000 in
set_option maxHeartbeats 4000000 in
theorem walk_CostOrder (w : World) (v : Value) (x : List Int) (hx : Sl w v (x.map (Value.int .i64))) (_hw : ∀ n ∈ x, (Lit.int .i64 n).wf = true)
    (most : Int) (_hm : (Lit.int .i64 most).wf = true) (a : Int) (ha : (Lit.int .u8 a).wf = true) :
    Calls Try.prog 8 #[v, .int .i64 most, .int .u8 a] w fun e w' => e = .returned (.bool true) ∧ Kept Nix w w' := by
  obtain ⟨xo, xc, rfl, -⟩ := hx.ints
  have HX := Lib.hid (show Sl w (.slice xo x.length xc) (ivs x) from hx)
  have HA := Lib.hid (awake_any w)
  have HU := Lib.hid ha
  clear hx _hw _hm ha
  go_enter Try.func8, Try.ntmps8
  go_upto_region 2 with (go_at_call 9; refine HA.out.mono ?_; rintro e w1 ⟨rfl, k1⟩; have K1 := Lib.hid k1; clear k1)
  clear HA
  have HN := Lib.hid (rnears_any _ x w1 (HX.out.nix K1.out))
  go_upto_region 3 with (go_at_call 18; refine HN.out.mono ?_; rintro e w2 ⟨rfl, rfl⟩; clear HN)
  by_cases hlen : 100 < x.length
  · have hd : decide ((100 : Int) < (x.length : Int)) = true := decide_eq_true (by omega)
    clear hlen
    go_wp2
    go_ret
    exact ⟨rfl, K1.out⟩
  have hd : decide ((100 : Int) < (x.length : Int)) = false := decide_eq_false (by omega)
  have HL := Lib.hid (show x.length ≤ 100 by omega)
  clear hlen
  by_cases h0 : x.length = 0
  · have hz : ((x.length : Int) == 0) = true := by rw [h0]; rfl
    clear h0
    go_wp2
    go_ret
    exact ⟨rfl, K1.out⟩
  have hz : ((x.length : Int) == 0) = false := beq_false_of_ne (by omega)
  have H0 := Lib.hid h0
  cases hn : nrs x with
  | false =>
    clear h0
    go_wp2
    go_ret
    exact ⟨rfl, K1.out⟩
  | true =>
    clear hn h0
    go_wp2
    clear hd hz
    have ST := Lib.hid (fun i hi => ord_step (x := x) HU.out HL.out (i := i) hi)
    have TL := Lib.hid (turn_length x (a.toNat % x.length))
    obtain ⟨t1, t2, t3, t4, t5⟩ := turn_best x (a.toNat % x.length) (kk most)
    have TB := Lib.hid (show bestV (turn x (a.toNat % x.length)) (kk most) = bestV x (kk most) by unfold bestV; rw [t1, t2, t3, t4])
    have TW := Lib.hid t5
    clear t1 t2 t3 t4 t5
    generalize turn x (a.toNat % x.length) = Y at *
    have HOWN := Lib.hid (World.ownsRow_nil w2 w2.heap.size 3 1)
    refine wp_loop (OrdInv (.slice xo x.length xc) most a x.length w2.heap.size Y w2) (fun a _ => x.length - (intOf (a.tmps.getD 10 undef)).toNat) ?_ ?_
    · exact ⟨rfl, rfl, rfl, rfl, rfl, rfl, 0, Nat.zero_le _, rfl, _, rfl, HOWN.out, Kept.refl _ _⟩
    · clear HOWN
      rintro ⟨tm, df⟩ w3 ⟨rfl, hs, e0, e1, e2, e7, i, hi, e10, u, e9, ho, hk⟩
      simp only at hs e0 e1 e2 e7 e10 e9
      obtain ⟨f, hf, hg⟩ := fr_open hs
      have g0 := hg _ _ e0
      have g1 := hg _ _ e1
      have g2 := hg _ _ e2
      have g7 := hg _ _ e7
      have g10 := hg _ _ e10
      have g9 := hg _ _ e9
      simp only [List.range, List.range.loop, List.map] at hf
      rw [g0, g1, g2, g7, g10, g9] at hf
      clear g0 g1 g2 g7 g10 g9 hg hs e0 e1 e2 e7 e10 e9
      subst hf
      have HO := Lib.hid ho
      have HK := Lib.hid hk
      clear ho hk
      by_cases hlt : i < x.length
      · obtain ⟨s, q, m1, m2, m3, m4, m5, m6, m7, m8⟩ := ST.out i hlt
        obtain ⟨b1, o1, rfl, hc1⟩ := cell_kept HX.out q m4
        have x1 := hc1 w3 (nix_trans K1.out HK.out)
        rw [m5] at x1
        have HST := Lib.hid (take_get (L := Y) (i := i) (by rw [TL.out]; exact hlt))
        have M6 := Lib.hid m6
        have M7 := Lib.hid m7
        have M8 := Lib.hid m8
        have HI := Lib.hid hlt
        have hdd : decide (i < x.length) = true := decide_eq_true hlt
        have hq : (q : Int) < (x.length : Int) := by omega
        have hz : ¬ x.length = 0 := H0.out
        clear hc1 hlt hi m4 m5 m6 m7 m8
        generalize Y.getD i 0 = y at *
        have O5 := Lib.hid (HO.out.alloc (.cells #[.int .i64 y] 3))
        have HBS := Lib.hid (show w2.heap.size ≤ (w3.alloc (.cells #[.int .i64 y] 3)).heap.size from (HK.out.alloc _).size)
        go_wp2_with (refine wpList_app _ rfl _ _ 22 rfl w2.heap.size 3 (.int .i64 0) 1 8 Try.underlying22 info_int rfl (by decide) _ _ _ rfl O5.out _ 1 1 [.int .i64 y] rfl (src_one w3 _ _ rfl) M7.out M8.out HBS.out ?_
                     intro v6 w6 o6 g6 n6; have k6 : Kept Nix w2 w6 := (HK.out.alloc _).grown g6 (fun kk hkk => .inr (O5.out.lt kk hkk).1); have K6 := Lib.hid k6; have O6 := Lib.hid o6; clear k6 o6 g6 n6)
        rw [M6.out]
        refine ⟨⟨rfl, rfl, rfl, rfl, rfl, rfl, i + 1, HI.out, rfl, v6, rfl, ?_, K6.out⟩, nearer HI.out rfl⟩
        rw [HST.out, ivs_append]
        exact O6.out
      · have hie : i = x.length := by omega
        subst hie
        have hdd : decide (x.length < x.length) = false := decide_eq_false hlt
        have ho := HO.out
        rw [List.take_of_length_le (by rw [TL.out]; exact Nat.le_refl _)] at ho
        have SY := Lib.hid (sl_of_owns ho)
        obtain ⟨uo, uc, rfl, hc, -⟩ := owns_shape ho
        have B1 := Lib.hid (cbest_any _ x most w3 (HX.out.nix (nix_trans K1.out HK.out)) (by have := HL.out; omega))
        have B2 := Lib.hid (fun w' (h : Kept Nix w3 w') => cbest_any _ Y most w' (SY.out.nix h) (by rw [TL.out]; have := HL.out; omega))
        rw [TB.out] at B2
        have W1 := Lib.hid (fun w' (h : Kept Nix w3 w') => cwidth_any _ x w' (HX.out.nix (nix_trans (nix_trans K1.out HK.out) h)))
        have W2 := Lib.hid (fun w' (h : Kept Nix w3 w') => cwidth_any _ Y w' (SY.out.nix h))
        rw [TW.out] at W2
        unfold bestV at B1 B2
        have KK := Lib.hid (nix_trans K1.out HK.out)
        clear ho hc hlt hi HO TB TW ST
        generalize bestK x (kk most) = pk at *
        generalize bestR x (kk most) = pr at *
        generalize bestN x (kk most) = pn at *
        generalize bestE x = pe at *
        generalize cwid x = c at *
        have q1 : (pe == pe) = true := by simp
        have q2 : (pn == pn) = true := by simp
        have q3 : (c == c) = true := by simp
        have q4 : (pk == pk) = true := by simp
        have q5 : (pr == pr) = true := by simp
        go_upto_region 11 with (go_at_call 16; refine B1.out.mono ?_; rintro e w4 ⟨rfl, k4⟩; have K4 := Lib.hid k4; clear k4 B1)
        have C1 := Lib.hid (part_cells w4 pk pr 25)
        have K5 := Lib.hid (K4.out.alloc (.cells #[.int .i64 pk, .bool pr] 25))
        generalize w4.alloc (.cells #[.int .i64 pk, .bool pr] 25) = w5 at *
        generalize w4.heap.size = g1 at *
        go_upto_region 12 with (go_at_call 16; refine (B2.out _ K5.out).mono ?_; rintro e w6 ⟨rfl, k6⟩; have K6 := Lib.hid k6; clear k6 B2)
        obtain ⟨c1, c2, -⟩ := C1.out _ (K6.out.alloc (.cells #[.int .i64 pk, .bool pr] 25))
        obtain ⟨d1, d2, -⟩ := part_cells w6 pk pr 25 _ (Kept.refl _ _)
        have K7 := Lib.hid (nix_trans K5.out (K6.out.alloc (.cells #[.int .i64 pk, .bool pr] 25)))
        generalize w6.alloc (.cells #[.int .i64 pk, .bool pr] 25) = w7 at *
        generalize w6.heap.size = g2 at *
        clear C1 K5 K6 K4
        go_wp2_with (first
          | (go_at_call 12; refine (W1.out _ K7.out).mono ?_; rintro e w8 ⟨rfl, rfl⟩; clear W1)
          | (go_at_call 12; refine (W2.out _ K7.out).mono ?_; rintro e w8 ⟨rfl, rfl⟩; clear W2))
        go_ret
        exact ⟨rfl, nix_trans KK.out K7.out⟩

end Go.Proofs.Ytpbfmbmdagpmpaa
