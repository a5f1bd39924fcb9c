/- The walk of QuantTwice. -/
import Derived.Test.YtgcokligilfkgaaQuArg
namespace Go.Proofs.Ytgcokligilfkgaa
open Go.RowKit Bx

/-- Twice as far. -/
def dbl (zs : List Int) : List Int := zs.map (fun z => 2 * z)

theorem dbl_length (zs : List Int) : (dbl zs).length = zs.length := by simp [dbl]
theorem dbl_get (zs : List Int) (i : Nat) : (dbl zs).getD i 0 = 2 * zs.getD i 0 := by
  unfold dbl
  simp only [List.getD_eq_getElem?_getD, List.getElem?_map]
  cases zs[i]? <;> simp
theorem dbl_take (zs : List Int) (i : Nat) (h : i < zs.length) : dbl (zs.take (i + 1)) = dbl (zs.take i) ++ [2 * zs.getD i 0] := by
  rw [List.take_succ_eq_append_getElem h]
  unfold dbl
  rw [List.map_append, List.map_cons, List.map_nil]
  simp only [List.getD, List.getElem?_eq_getElem h, Option.getD_some]

theorem far_dbl (zs : List Int) : far (dbl zs) = 2 * far zs := by
  have key : ∀ k, k ≤ zs.length → far (dbl (zs.take k)) = 2 * far (zs.take k) := by
    intro k
    induction k with
    | zero => intro _; simp [far, dbl]
    | succ k ih =>
      intro hk
      rw [dbl_take zs k (by omega), far_snoc, far_take zs k (by omega), ih (by omega)]
      omega
  have := key zs.length (Nat.le_refl _)
  rwa [List.take_length] at this

theorem shAt_is {F p : Nat} : ∀ {n s : Nat}, s < n → F * 2 ^ s < 2 ^ (p + 19) → (∀ t, s < t → t < n → ¬ F * 2 ^ t < 2 ^ (p + 19)) → shAt F p n = some s
  | 0, s, h, _, _ => by omega
  | n + 1, s, h1, h2, h3 => by
    unfold shAt
    by_cases hs : s = n
    · subst hs
      rw [if_pos h2]
    · rw [if_neg (h3 n (by omega) (by omega))]
      exact shAt_is (by omega) h2 (fun t a b => h3 t a (by omega))

theorem shAt_no {F p : Nat} : ∀ {n : Nat}, (∀ t, t < n → ¬ F * 2 ^ t < 2 ^ (p + 19)) → shAt F p n = none
  | 0, _ => rfl
  | n + 1, h => by
    unfold shAt
    rw [if_neg (h n (by omega))]
    exact shAt_no (fun t a => h t (by omega))

theorem two_pw (F t : Nat) : 2 * F * 2 ^ t = F * 2 ^ (t + 1) := by rw [Nat.pow_succ, Nat.mul_comm 2 F, Nat.mul_assoc, Nat.mul_comm 2]

theorem pw_more (F t : Nat) : F * 2 ^ t ≤ F * 2 ^ (t + 1) := Nat.mul_le_mul_left _ (Nat.pow_le_pow_right (by decide) (by omega))

theorem sh_twice_none {F p : Nat} (h : shOf F p = none) : shOf (2 * F) p = none := by
  have h1 := shAt_none h
  refine shAt_no (fun t ht => ?_)
  have h2 := h1 t ht
  have h3 := pw_more F t
  rw [two_pw]
  omega

theorem sh_twice_zero {F p : Nat} (h : shOf F p = some 0) : shOf (2 * F) p = none := by
  obtain ⟨_, _, h1⟩ := shAt_some h
  refine shAt_no (fun t ht => ?_)
  rw [two_pw]
  by_cases h15 : t + 1 < 16
  · exact h1 (t + 1) (by omega) h15
  · have h2 := h1 t (by omega) ht
    have h3 := pw_more F t
    omega

theorem sh_twice {F p s : Nat} (h : shOf F p = some (s + 1)) : shOf (2 * F) p = some s ∨ s + 1 = 15 ∧ shOf (2 * F) p = some 15 := by
  obtain ⟨h0, h1, h2⟩ := shAt_some h
  by_cases h15 : s + 1 = 15 ∧ 2 * F * 2 ^ 15 < 2 ^ (p + 19)
  · exact .inr ⟨h15.1, shAt_is (by omega) h15.2 (fun t a b => by omega)⟩
  · refine .inl (shAt_is (by omega) (by rw [two_pw]; exact h1) (fun t a b hc => ?_))
    by_cases ht : t = 15
    · subst ht
      by_cases hs : s + 1 = 15
      · exact h15 ⟨hs, hc⟩
      · have h3 := h2 15 (by omega) (by omega)
        have h4 := pw_more F 15
        rw [two_pw] at hc
        omega
    · rw [two_pw] at hc
      exact h2 (t + 1) (by omega) (by omega) hc

theorem car_dbl (h m : Int) (zs : List Int) : ∀ i, car h m (dbl zs) i = car h (2 * m) zs i
  | 0 => rfl
  | i + 1 => by
    have e : (dbl zs).getD i 0 * m = zs.getD i 0 * (2 * m) := by rw [dbl_get, Int.mul_comm 2 (zs.getD i 0), Int.mul_assoc]
    rw [car_succ, car_succ]
    unfold wnt
    rw [car_dbl h m zs i, e]

theorem tolds_dbl (h m : Int) (zs : List Int) : tolds h m (dbl zs) = tolds h (2 * m) zs := by
  unfold tolds toldF
  rw [dbl_length]
  refine List.map_congr_left (fun i _ => ?_)
  have e : (dbl zs).getD i 0 * m = zs.getD i 0 * (2 * m) := by rw [dbl_get, Int.mul_comm 2 (zs.getD i 0), Int.mul_assoc]
  unfold wnt
  rw [car_dbl, e]

theorem twice_cases (zs : List Int) (P : Nat) : (∃ E : Int, (E = 1 ∨ E = 6) ∧ qz zs (P : Int) = (0, 0, [], E) ∧ qz (dbl zs) (P : Int) = (0, 0, [], E)) ∨
    (∃ L, qz zs (P : Int) = (0, (P : Int), L, 0) ∧ qz (dbl zs) (P : Int) = (0, 0, [], 6)) ∨
    (∃ L M, qz zs (P : Int) = (15, (P : Int), L, 0) ∧ qz (dbl zs) (P : Int) = (15, (P : Int), M, 0)) ∨
    ∃ (s : Nat) (L : List Int), s < 15 ∧ L.length ≤ 32 ∧ qz zs (P : Int) = (((s + 1 : Nat) : Int), (P : Int), L, 0) ∧ qz (dbl zs) (P : Int) = ((s : Int), (P : Int), L, 0) := by
  by_cases hb : zs.length < 1 ∨ 32 < zs.length ∨ (P : Int) < 2 ∨ 15 < (P : Int)
  · exact .inl ⟨1, .inl rfl, qz_bad hb, qz_bad (by rw [dbl_length]; exact hb)⟩
  have hg := qz_good hb
  have hg2 : qz (dbl zs) (P : Int) = qgood (dbl zs) P := qz_good (by rw [dbl_length]; exact hb)
  by_cases h0 : far zs = 0
  · exact .inl ⟨6, .inr rfl, hg.trans (qgood_zero h0), hg2.trans (qgood_zero (by rw [far_dbl, h0]))⟩
  have h0' : ¬ far (dbl zs) = 0 := by rw [far_dbl]; omega
  cases hs : shOf (far zs) P with
  | none => exact .inl ⟨6, .inr rfl, hg.trans (qgood_none hs), hg2.trans (qgood_none (by rw [far_dbl]; exact sh_twice_none hs))⟩
  | some s =>
    cases s with
    | zero => exact .inr (.inl ⟨_, hg.trans (qgood_some hs h0), hg2.trans (qgood_none (by rw [far_dbl]; exact sh_twice_zero hs))⟩)
    | succ s =>
      have hs16 := (shAt_some hs).1
      rcases sh_twice hs with h | ⟨e, h⟩
      · refine .inr (.inr (.inr ⟨s, tolds (2 ^ (P - 1)) (2 ^ (s + 1)) zs, by omega, by rw [tolds_length]; omega, hg.trans (qgood_some hs h0), ?_⟩))
        rw [hg2, qgood_some (by rw [far_dbl]; exact h) h0', tolds_dbl, Int.pow_succ, Int.mul_comm 2]
      · refine .inr (.inr (.inl ⟨_, _, hg.trans ((qgood_some hs h0).trans (by rw [e]; rfl)), hg2.trans (qgood_some (by rw [far_dbl]; exact h) h0')⟩))

def TwInv (v : Value) (zs : List Int) (P l : Nat) (b : Nat) (w : World) (a : Act) (w' : World) : Prop :=
  a.defers = [] ∧ a.tmps.size = 105 ∧ a.tmps[0]? = some v ∧ a.tmps[5]? = some (.bool true) ∧ a.tmps[6]? = some (.int .i64 (P : Int)) ∧ ∃ i : Nat, i ≤ l ∧ a.tmps[8]? = some (.int .i64 (i : Int)) ∧ Kept Nix w w' ∧
  (∃ u, a.tmps[7]? = some u ∧ w'.ownsRow b 3 1 u i (ivs (dbl (zs.take i)))) ∧ ∀ j, j < i → -549755813888 ≤ zs.getD j 0 ∧ zs.getD j 0 ≤ 549755813888

theorem dbl_wf {zs : List Int} (h : ∀ j, j < zs.length → -549755813888 ≤ zs.getD j 0 ∧ zs.getD j 0 ≤ 549755813888) : ∀ n ∈ dbl zs, (Lit.int .i64 n).wf = true := by
  intro n hn
  unfold dbl at hn
  obtain ⟨z, hz, rfl⟩ := List.mem_map.1 hn
  obtain ⟨i, hi, rfl⟩ := List.mem_iff_getElem.1 hz
  have := h i hi
  simp only [List.getD, List.getElem?_eq_getElem hi, Option.getD_some] at this
  simp [Lit.wf, IntKind.min, IntKind.max, IntKind.bits, IntKind.signed]
  omega

set_option maxRecDepth 10000 in
set_option maxHeartbeats 2000000 in
theorem walk_QuantTwice (w : World) (v : Value) (zs : List Int) (hz : Sl w v (zs.map (Value.int .i64))) (hw : ∀ n ∈ zs, (Lit.int .i64 n).wf = true) (a : Int) (ha : (Lit.int .u8 a).wf = true) :
    Calls Try.prog 6 #[v, .int .u8 a] w fun e w' => e = .returned (.bool true) ∧ Kept Nix w w' := by
  obtain ⟨n, P, r, rfl, p1, p2, p3, -, -⟩ := prec_of ha
  have HA := awake_any w
  have HZ := Lib.hid (sl_ivs hz)
  obtain ⟨ao, ca, rfl, hc, -⟩ := hz.ints
  clear hz hc ha
  have HW := Lib.hid hw
  clear hw
  go_enter Try.func6, Try.ntmps6
  go_upto_region 3 with (first
    | (go_at_call 8; refine HA.mono ?_; rintro e w1 ⟨rfl, k1⟩; have K1 := Lib.hid k1; clear k1 HA))
  clear p1 p2 p3
  by_cases hlen : 32 < zs.length
  · have hd : decide ((32 : Int) < (zs.length : Int)) = true := decide_eq_true (by omega)
    clear hlen
    go_wp2
    go_ret
    exact ⟨rfl, K1.out⟩
  have hd : decide ((32 : Int) < (zs.length : Int)) = false := decide_eq_false (by omega)
  have HL := Lib.hid (show zs.length ≤ 32 by omega)
  clear hlen
  generalize hl : zs.length = l at *
  have HLL := Lib.hid hl
  clear hl
  go_wp2
  clear hd
  refine wp_loop (TwInv (.slice ao l ca) zs P l w.heap.size w) (fun a _ => l - (intOf (a.tmps.getD 8 undef)).toNat) ?_ ?_
  · exact ⟨rfl, rfl, rfl, rfl, rfl, 0, Nat.zero_le _, rfl, K1.out, ⟨_, rfl, World.ownsRow_nil _ _ _ _⟩, fun j hj => by omega⟩
  · rintro ⟨tm, df⟩ w2 ⟨rfl, hs, h0, h5, h6, i, hi, h8, hk, ⟨u, h7, ho⟩, hbd⟩
    simp only at hs h0 h5 h6 h7 h8
    obtain ⟨f, hf, hg⟩ := fr_open hs
    have e0 := hg _ _ h0
    have e5 := hg _ _ h5
    have e6 := hg _ _ h6
    have e7 := hg _ _ h7
    have e8 := hg _ _ h8
    simp only [List.range, List.range.loop, List.map] at hf
    rw [e0, e5, e6, e7, e8] at hf
    clear e0 e5 e6 e7 e8 hg hs h0 h5 h6 h7 h8
    subst hf
    have HK := Lib.hid hk
    have HO := Lib.hid ho
    have HBD := Lib.hid hbd
    clear hk ho hbd
    by_cases hlt : i < l
    · obtain ⟨b1, o1, rfl, hc1⟩ := cell_kept HZ.out i (by rw [HLL.out]; exact hlt)
      have x1 := hc1 w2 HK.out
      have hi1 : (i : Int) < (l : Int) := by omega
      have hdd : decide (i < l) = true := decide_eq_true hlt
      have hw1 : wrap64 ((i : Int) + 1) = ((i + 1 : Nat) : Int) := by have := HL.out; unfold wrap64; omega
      have HW1 := Lib.hid hw1
      have HI := Lib.hid hlt
      have HT := Lib.hid (dbl_take zs i (by rw [HLL.out]; exact hlt))
      have HG : Hid (∀ x, zs.getD i 0 = x → -549755813888 ≤ x ∧ x ≤ 549755813888 → ∀ j, j < i + 1 → -549755813888 ≤ zs.getD j 0 ∧ zs.getD j 0 ≤ 549755813888) := Lib.hid (fun x hx hb j hj => by
        by_cases hji : j = i
        · rw [hji, hx]; exact hb
        · exact HBD.out j (by omega))
      clear hc1 hlt hi hw1
      generalize hx : zs.getD i 0 = x at *
      have HX := Lib.hid hx
      clear hx
      by_cases t1 : x < -549755813888
      · have d1 : decide (x < -549755813888) = true := decide_eq_true t1
        clear t1
        go_wp2
        go_ret
        exact ⟨rfl, HK.out⟩
      by_cases t2 : 549755813888 < x
      · have d1 : decide (x < -549755813888) = false := decide_eq_false t1
        have d2 : decide (549755813888 < x) = true := decide_eq_true t2
        clear t1 t2
        go_wp2
        go_ret
        exact ⟨rfl, HK.out⟩
      have d1 : decide (x < -549755813888) = false := decide_eq_false t1
      have d2 : decide (549755813888 < x) = false := decide_eq_false t2
      have hm : wrap64 (2 * x) = 2 * x := w64_in _ (by omega)
      have HN := Lib.hid (HG.out x rfl ⟨by omega, by omega⟩)
      clear t1 t2
      have DL := Lib.hid (show (dbl (zs.take i)).length = i by rw [dbl_length, List.length_take, HLL.out]; have := HI.out; omega)
      have O8 := Lib.hid (HO.out.alloc (.cells #[.int .i64 (2 * x)] 3))
      have HB1 := Lib.hid (show i + 1 ≤ maxLen by have := HI.out; have := HL.out; simp only [maxLen]; omega)
      have HB2 := Lib.hid (show (i + 1) * 8 ≤ 140737488355328 by have := HI.out; have := HL.out; omega)
      have HBS := Lib.hid (show w.heap.size ≤ (w2.alloc (.cells #[.int .i64 (2 * x)] 3)).heap.size by have h1 := HK.out.size; simp; omega)
      go_upto_region 11 with fail
      clear d1 d2
      go_wp2_with (refine wpList_app _ rfl _ _ 22 rfl w.heap.size 3 (.int .i64 0) 1 8 Try.underlying22 info_int rfl (by decide) u i (ivs (dbl (zs.take i))) rfl O8.out (some ⟨w2.heap.size, 0, none⟩) 1 1 [.int .i64 (2 * x)] rfl (src_one w2 _ _ rfl) HB1.out HB2.out HBS.out ?_
                   intro v6 w6 o6 g6 n6; have O6 := Lib.hid o6; have G6 := Lib.hid g6; clear o6 g6 n6)
      rw [HW1.out]
      refine ⟨⟨rfl, rfl, rfl, rfl, rfl, i + 1, HI.out, rfl, (HK.out.alloc _).grown G6.out (fun k hk => .inr (O8.out.lt k hk).1), ⟨v6, rfl, ?_⟩, HN.out⟩, nearer HI.out rfl⟩
      rw [HT.out, show ivs (dbl (zs.take i) ++ [2 * x]) = ivs (dbl (zs.take i)) ++ [.int .i64 (2 * x)] by simp [ivs]]
      exact O6.out
    · have hdd : decide (i < l) = false := decide_eq_false hlt
      have hie : i = l := by omega
      subst hie
      have hdz : zs.take i = zs := List.take_of_length_le (Nat.le_of_eq HLL.out)
      rw [hdz] at HO
      obtain ⟨bo, cb, rfl, -, -⟩ := owns_shape HO.out
      have SB := Lib.hid (sl_of_owns HO.out)
      have QU1 := Lib.hid (quant_any _ zs (P : Int) w2 (HZ.out.nix HK.out) HW.out)
      have QU2 := Lib.hid (fun w' (k : Kept Nix w2 w') => quant_any _ (dbl zs) (P : Int) w' (SB.out.nix k) (dbl_wf (fun j hj => HBD.out j (by rw [HLL.out] at hj; exact hj))))
      have TW := Lib.hid (twice_cases zs P)
      unfold QPost QPostR at QU1 QU2
      clear hi hlt hdz
      generalize qz zs (P : Int) = R1 at *
      generalize qz (dbl zs) (P : Int) = R2 at *
      obtain ⟨s1, q1, L1, e1⟩ := R1
      obtain ⟨s2, q2, L2, e2⟩ := R2
      simp only at QU1 QU2
      go_upto_region 13 with (first
        | (go_at_call 10; refine QU1.out.mono ?_; rintro e w3 ⟨u3, rfl, o3, k3⟩; clear QU1
           obtain ⟨uo, uc, rfl, -, -⟩ := owns_shape o3
           have K3 := Lib.hid k3; have S3 := Lib.hid (sl_of_owns o3); clear o3 k3)
        | (refine wpList_store_row rfl 26 _ _ rfl _ _ rfl rfl 26 _ (heap_alloc_new w3 _) size_lpc rfl (one_lpc _ _ _ _ _) ?_))
      obtain ⟨k4, hc4⟩ := put_lpc w3 s1 q1 (.slice uo L1.length uc) _ rfl
      generalize World.setRow _ _ _ = w4 at *
      generalize w3.heap.size = g at *
      have K4 := Lib.hid (nix_trans K3.out k4)
      have S4 := Lib.hid (S3.out.nix k4)
      have C4 := Lib.hid (fun w' k => (hc4 w' k).2)
      clear hc4 k4
      go_upto_region 14 with (first
        | (go_at_call 10; refine (QU2.out _ K4.out).mono ?_; rintro e w5 ⟨u5, rfl, o5, k5⟩; clear QU2
           obtain ⟨uo5, uc5, rfl, -, -⟩ := owns_shape o5
           have K5 := Lib.hid k5; have S5 := Lib.hid (sl_of_owns o5); clear o5 k5)
        | (refine wpList_store_row rfl 26 _ _ rfl _ _ rfl rfl 26 _ (heap_alloc_new w5 _) size_lpc rfl (one_lpc _ _ _ _ _) ?_))
      obtain ⟨k6, hc6⟩ := put_lpc w5 s2 q2 (.slice uo5 L2.length uc5) _ rfl
      generalize World.setRow _ _ _ = w6 at *
      generalize w5.heap.size = g2 at *
      have K46 := Lib.hid (nix_trans K5.out k6)
      have KW := Lib.hid (nix_trans HK.out (nix_trans K4.out K46.out))
      have S6 := Lib.hid (S5.out.nix k6)
      have T6 := Lib.hid (S4.out.nix K46.out)
      obtain ⟨-, y0, y1, y2⟩ := hc6 w6 (Kept.refl _ _)
      obtain ⟨z0, z1, z2⟩ := C4.out w6 K46.out
      clear hc6 k6
      rcases TW.out with ⟨E, hE, h1, h2⟩ | ⟨L, h1, h2⟩ | ⟨L, M, h1, h2⟩ | ⟨s, L, hs, hll, h1, h2⟩
      · have hb : (E != 0) = true := bne_iff_ne.2 (by omega)
        have hb2 : (E == E) = true := beq_self_eq_true _
        clear hE
        simp only [Prod.mk.injEq] at h1 h2
        obtain ⟨rfl, rfl, rfl, rfl⟩ := h1
        obtain ⟨rfl, rfl, rfl, rfl⟩ := h2
        go_wp2
        go_ret
        exact ⟨rfl, KW.out⟩
      · simp only [Prod.mk.injEq] at h1 h2
        obtain ⟨rfl, rfl, rfl, rfl⟩ := h1
        obtain ⟨rfl, rfl, rfl, rfl⟩ := h2
        go_wp2
        go_ret
        exact ⟨rfl, KW.out⟩
      · simp only [Prod.mk.injEq] at h1 h2
        obtain ⟨rfl, rfl, rfl, rfl⟩ := h1
        obtain ⟨rfl, rfl, rfl, rfl⟩ := h2
        go_wp2
        go_ret
        exact ⟨rfl, KW.out⟩
      · simp only [Prod.mk.injEq] at h1 h2
        obtain ⟨rfl, rfl, rfl, rfl⟩ := h1
        obtain ⟨rfl, rfl, rfl, rfl⟩ := h2
        have I1 := Lib.hid (ints_eq S6.out T6.out (by omega) rfl)
        have n1 : (((s + 1 : Nat) : Int) == 0) = false := beq_false_of_ne (by omega)
        have n2 : ((s : Int) == 15) = false := beq_false_of_ne (by omega)
        have n3 : wrap64 (((s + 1 : Nat) : Int) - 1) = (s : Int) := by unfold wrap64; omega
        have n4 : ((s : Int) == (s : Int)) = true := beq_self_eq_true _
        clear hs hll
        generalize ((s + 1 : Nat) : Int) = t at *
        go_wp2_with (go_at_call 13; refine I1.out.mono ?_; rintro e w7 ⟨rfl, nn, rfl⟩; clear I1)
        go_ret
        exact ⟨rfl, KW.out.drewN _⟩

end Go.Proofs.Ytgcokligilfkgaa
