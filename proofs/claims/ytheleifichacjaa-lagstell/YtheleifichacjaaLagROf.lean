/- The reference of layer 9: Of. -/
import Derived.Test.YtheleifichacjaaLagRef
import Derived.Test.YtheleifichacjaaLagOrd
namespace Go.Proofs.Ytheleifichacjaa
open Go.RowKit Bx

def ROfO (v : Value) (p : Int) (L : List Int) (order : Int) (m : Nat) (w : World) (a : Act) (w' : World) : Prop :=
  a.defers = [] ∧ a.tmps.size = 56 ∧ a.tmps[0]? = some v ∧ a.tmps[1]? = some (.int .i64 order) ∧ a.tmps[5]? = some (.int .i64 p) ∧
  ∃ k : Nat, k ≤ m ∧ a.tmps[7]? = some (.int .i64 (k : Int)) ∧ ∃ u, a.tmps[6]? = some u ∧ w'.ownsRow w.heap.size 3 1 u k (ivs (L.take k)) ∧ Kept Nix w w'

def ROfI (v u : Value) (p : Int) (ys : List Int) (order : Int) (k c : Nat) (w : World) (a : Act) (w' : World) : Prop :=
  a.defers = [] ∧ a.tmps.size = 56 ∧ a.tmps[0]? = some v ∧ a.tmps[1]? = some (.int .i64 order) ∧ a.tmps[5]? = some (.int .i64 p) ∧ a.tmps[6]? = some u ∧ a.tmps[7]? = some (.int .i64 (k : Int)) ∧
  ∃ i : Nat, i ≤ c ∧ a.tmps[9]? = some (.int .i64 (i : Int)) ∧ a.tmps[8]? = some (.int .i64 (part ys k i)) ∧ ∃ nn, w' = w.drewN nn

/-- The test at the head, by its parts. -/
theorem rof_head (k : Nat) (order : Int) :
    (k < many order → (decide ((k : Int) ≤ order) = true ∧ decide ((k : Int) ≤ 32) = true ∧ decide (k ≤ 32) = true) ∨ (decide ((k : Int) ≤ order) = false ∧ ((k : Int) == 0) = true ∧ (k == 0) = true)) ∧
    (¬ k < many order → (decide ((k : Int) ≤ order) = true ∧ decide ((k : Int) ≤ 32) = false ∧ decide (k ≤ 32) = false ∧ ((k : Int) == 0) = false ∧ (k == 0) = false) ∨ (decide ((k : Int) ≤ order) = false ∧ ((k : Int) == 0) = false ∧ (k == 0) = false)) := by
  unfold many
  constructor
  · intro h
    by_cases h1 : (k : Int) ≤ order
    · exact .inl ⟨decide_eq_true h1, decide_eq_true (by omega), decide_eq_true (by omega)⟩
    · have h0 : k = 0 := by omega
      subst h0
      exact .inr ⟨decide_eq_false h1, rfl, rfl⟩
  · intro h
    have h0 : ¬ k = 0 := by omega
    have e1 : ((k : Int) == 0) = false := beq_false_of_ne (by omega)
    have e2 : (k == 0) = false := beq_false_of_ne h0
    by_cases h1 : (k : Int) ≤ order
    · exact .inl ⟨decide_eq_true h1, decide_eq_false (by omega), decide_eq_false (by omega), e1, e2⟩
    · exact .inr ⟨decide_eq_false h1, e1, e2⟩

theorem rof_nums {ys : List Int} (hb : Bd 4194304 ys) (k i : Nat) (hi : i ≤ 65534) (hik : i + k ≤ 65535) :
    wrap64 ((i : Int) + 1) = ((i + 1 : Nat) : Int) ∧ IntKind.i64.wrap ((i + k : Nat) : Int) = ((i + k : Nat) : Int) ∧ IntKind.i64.wrap (ys.getD i 0 * ys.getD (i + k) 0) = ys.getD i 0 * ys.getD (i + k) 0 ∧ IntKind.i64.wrap (part ys k i + ys.getD i 0 * ys.getD (i + k) 0) = part ys k (i + 1) := by
  have h1 := prod22 _ _ (hb.any (by decide) (i + k)) (hb.any (by decide) i)
  have h2 := part_bd hb k (i + 1) (by omega)
  have h3 : part ys k (i + 1) = part ys k i + ys.getD i 0 * ys.getD (i + k) 0 := by
    show part ys k i + ys.getD (i + k) 0 * ys.getD i 0 = _
    rw [Int.mul_comm]
  rw [Int.mul_comm] at h1
  rw [h3] at h2 ⊢
  generalize ys.getD i 0 * ys.getD (i + k) 0 = p at *
  exact ⟨by unfold wrap64; omega, IntWalk.i64_in _ (by omega), IntWalk.i64_in _ (by omega), IntWalk.i64_in _ (by omega)⟩

/-- A number that isn't the least one. -/
structure In63 (x : Int) : Prop where
  lo : -9223372036854775807 ≤ x
  hi : x ≤ 9223372036854775807

theorem down_in (a p : Int) (hp : 0 < p) (ha : In63 a) (w : World) : Calls Try.prog 17 #[.int .i64 a, .int .i64 p] w fun e w' => e = .returned (.int .i64 (a / p)) ∧ w' = w := down_by a p hp ⟨ha.lo, ha.hi⟩ w

theorem take_more (L : List Int) (i : Nat) (h : i < L.length) : L.take (i + 1) = L.take i ++ [L.getD i 0] := by
  rw [List.take_succ_eq_append_getElem h]
  simp [List.getD, h]

def ROfPost (zs : List Int) (order : Int) (w : World) (e : Ending) (w' : World) : Prop :=
  ∃ u, e = .returned u ∧ w'.ownsRow w.heap.size 3 1 u (many order) (ivs (told zs order)) ∧ Kept Nix w w'

set_option maxHeartbeats 4000000 in
theorem rof_any (v : Value) (zs : List Int) (order : Int) (w : World) (hs : Sl w v (ivs zs)) (hb : Bd 1099511627776 zs) (hm : zs.length ≤ 65000) :
    Calls Try.prog 15 #[v, .int .i64 order] w (ROfPost zs order w) := by
  obtain ⟨ao, cap, rfl, -⟩ := hs.ints
  have HF := Lib.hid (rfit_any _ zs w hs hb)
  have HP := Lib.hid (fun w => power_any (fit zs) (by have := fit_top hb; omega) w)
  have HO : Hid (∀ u w', w'.ownsRow w.heap.size 3 1 u (many order) (ivs (told zs order)) → Kept Nix w w' → ROfPost zs order w (.returned u) w') := Lib.hid (fun u w' ho hk => ⟨u, rfl, ho, hk⟩)
  have SX := Lib.hid hs
  have HB := Lib.hid hb
  have HYB := Lib.hid (dv_bd hb)
  have HYL := Lib.hid (dv_length (fit zs) zs)
  have HYG := Lib.hid (dv_get (fit zs) zs)
  have HPP := Lib.hid (show 0 < (2 : Int) ^ fit zs by have h1 := fit_top hb; have := pow_top (fit zs) (by omega); omega)
  have HMT := Lib.hid (many_top order)
  have HTL := Lib.hid (told_length zs order)
  have HTG : Hid (∀ k, k < many order → (told zs order).getD k 0 = lag (dv (fit zs) zs) k) := Lib.hid (fun k hk => lags_get _ _ _ hk)
  have HM := Lib.hid hm
  have HN0 := Lib.hid (World.ownsRow_nil w w.heap.size 3 1)
  have HHD := Lib.hid (fun k => rof_head k order)
  clear hs hb hm
  generalize hn : zs.length = n at *
  have HN := Lib.hid hn
  clear hn
  generalize dv (fit zs) zs = ys at *
  generalize told zs order = L at *
  generalize many order = m at *
  generalize (2 : Int) ^ fit zs = p at *
  generalize fit zs = s at *
  go_enter Try.func15, Try.ntmps15
  go_wp2_with (first
    | (go_at_call 12; refine HF.out.mono ?_; rintro e w1 ⟨rfl, n1, hw1⟩; have HW1 := Lib.hid hw1; clear hw1 HF)
    | (go_at_call 18; refine (HP.out _).mono ?_; rintro e w2 ⟨rfl, rfl⟩; clear HP))
  have K2 := Lib.hid (show Kept Nix w w2 by rw [HW1.out]; exact (Kept.refl _ w).drewN n1)
  have O2 := Lib.hid (show w2.ownsRow w.heap.size 3 1 (.slice none 0 0) 0 [] from K2.out.owns HN0.out (fun _ _ h => h))
  clear HW1 HN0
  refine wp_loop (ROfO (.slice ao n cap) p L order m w) (fun a _ => m - (intOf (a.tmps.getD 7 undef)).toNat) ?_ ?_
  · exact ⟨rfl, rfl, rfl, rfl, rfl, 0, Nat.zero_le _, rfl, _, rfl, O2.out, K2.out⟩
  · clear O2 K2
    rintro ⟨tm, df⟩ w3 ⟨rfl, hs, h0, h1, h5, k, hi, h7, u, h6, hou, hkp⟩
    simp only at hs h0 h1 h5 h7 h6
    obtain ⟨f, hf, hg⟩ := fr_open hs
    have e0 := hg _ _ h0
    have e1 := hg _ _ h1
    have e5 := hg _ _ h5
    have e7 := hg _ _ h7
    have e6 := hg _ _ h6
    simp only [List.range, List.range.loop, List.map] at hf
    rw [e0, e1, e5, e7, e6] at hf
    clear e0 e1 e5 e7 e6 hg hs h0 h1 h5 h7 h6
    subst hf
    have HKP := Lib.hid hkp
    have HOU := Lib.hid hou
    clear hkp hou
    by_cases hlt : k < m
    · have HK := Lib.hid hlt
      have hk33 : k ≤ 33 := by have := HMT.out; omega
      have HK33 := Lib.hid hk33
      rcases (HHD.out k).1 hlt with ⟨t1, t2, t3⟩ | ⟨t1, t2, t3⟩
      all_goals
        clear hlt hi hk33
        go_upto_if 23 with fail
        clear t1 t2 t3
        go_wp2
        refine wp_loop (ROfI (.slice ao n cap) u p ys order k (n - k) w3) (fun a _ => (n - k) - (intOf (a.tmps.getD 9 undef)).toNat) ?_ ?_
        · exact ⟨rfl, rfl, rfl, rfl, rfl, rfl, rfl, 0, Nat.zero_le _, rfl, rfl, 0, rfl⟩
        · rintro ⟨tm, df⟩ w4 ⟨rfl, hs, h0, h1, h5, h6, h7, i, hi, h9, h8, n4, hw4⟩
          simp only at hs h0 h1 h5 h6 h7 h9 h8
          obtain ⟨f2, hf, hg⟩ := fr_open hs
          have e0 := hg _ _ h0
          have e1 := hg _ _ h1
          have e5 := hg _ _ h5
          have e6 := hg _ _ h6
          have e7 := hg _ _ h7
          have e9 := hg _ _ h9
          have e8 := hg _ _ h8
          simp only [List.range, List.range.loop, List.map] at hf
          rw [e0, e1, e5, e6, e7, e9, e8] at hf
          clear e0 e1 e5 e6 e7 e9 e8 hg hs h0 h1 h5 h6 h7 h9 h8
          subst hf
          have HW4 := Lib.hid hw4
          have hsum : (i : Int) + (k : Int) = ((i + k : Nat) : Int) := by omega
          have hws : wrap64 ((i + k : Nat) : Int) = ((i + k : Nat) : Int) := by have := HM.out; have := HK33.out; unfold wrap64; omega
          by_cases hlt : i < n - k
          · have HI := Lib.hid hlt
            have hik : i + k < n := by omega
            obtain ⟨b1, o1, rfl, hc1⟩ := cell_kept SX.out i (by rw [HN.out]; omega)
            obtain ⟨b2, o2, he, hc2⟩ := cell_kept SX.out (i + k) (by rw [HN.out]; exact hik)
            simp only [Option.some.injEq, Addr.mk.injEq, and_true] at he
            obtain ⟨rfl, rfl⟩ := he
            have hk4 : Kept Nix w w4 := by rw [hw4]; exact HKP.out.drewN n4
            have c1 := hc1 w4 hk4
            have c2 := hc2 w4 hk4
            obtain ⟨r1, r2, r3, r4⟩ := rof_nums HYB.out k i (by have := HM.out; omega) (by have := HM.out; omega)
            have bx : In63 (zs.getD i 0) := by have := HB.out.any (by decide) i; exact ⟨by omega, by omega⟩
            have bz : In63 (zs.getD (i + k) 0) := by have := HB.out.any (by decide) (i + k); exact ⟨by omega, by omega⟩
            rw [HYG.out i, HYG.out (i + k)] at r3 r4
            have hd1 : decide (((i + k : Nat) : Int) < (n : Int)) = true := decide_eq_true (by omega)
            have hd2 : decide (i + k < n) = true := decide_eq_true hik
            have hi1 : (i : Int) < (n : Int) := by omega
            have hi2 : ((i + k : Nat) : Int) < (n : Int) := by omega
            have R1 := Lib.hid r1
            have R4 := Lib.hid (rfl : part ys k (i + 1) = part ys k (i + 1))
            clear r1 hlt hi hc1 hc2 hk4 hw4 hik
            generalize zs.getD i 0 = x at *
            generalize zs.getD (i + k) 0 = z at *
            generalize hm' : i + k = ik at *
            clear hm'
            generalize hS1 : part ys k (i + 1) = S1 at *
            have HS1 := Lib.hid hS1
            clear hS1 R4
            generalize part ys k i = S at *
            go_wp2_with fail
            clear hws
            go_quiet ((go_at_call 17; exact Calls.quiet_of_same (down_in _ _ HPP.out (by assumption) _)))
            have HW5 := Lib.hid (show w4.drewN nq = w3.drewN (n4 + nq) by rw [HW4.out, World.drewN_drewN])
            generalize hwx : w4.drewN nq = w5 at *
            clear hwx
            go_wp2_with fail
            rw [R1.out]
            exact ⟨⟨rfl, rfl, rfl, rfl, rfl, rfl, rfl, i + 1, HI.out, rfl, by rw [HS1.out]; rfl, _, HW5.out⟩, nearer HI.out rfl⟩
          · have hie : i = n - k := by omega
            have HE := Lib.hid hie
            have hd1 : decide (((i + k : Nat) : Int) < (n : Int)) = false := decide_eq_false (by omega)
            have hd2 : decide (i + k < n) = false := decide_eq_false (by omega)
            have HKW : Hid (Kept Nix w w4) := Lib.hid (by rw [hw4]; exact HKP.out.drewN n4)
            have HKQ : Hid (Kept Nix w3 w4) := Lib.hid (by rw [hw4]; exact (Kept.refl _ w3).drewN n4)
            have HT := Lib.hid (take_more L k (by rw [HTL.out]; exact HK.out))
            have HS : Hid (part ys k i = L.getD k 0) := Lib.hid (by rw [HTG.out k HK.out, hie]; unfold lag; rw [HYL.out])
            clear hlt hi hw4 hie
            generalize hm' : i + k = ik at *
            clear hm'
            generalize part ys k i = S at *
            have hr1 : wrap64 ((k : Int) + 1) = ((k + 1 : Nat) : Int) := by have := HK33.out; unfold wrap64; omega
            have R1 := Lib.hid hr1
            have O4 := Lib.hid (show (w4.alloc (.cells #[.int .i64 S] 3)).ownsRow w.heap.size 3 1 u k (ivs (L.take k)) from (HKQ.out.owns HOU.out (fun _ _ h => h)).alloc _)
            clear hr1
            go_wp2_with (refine wpList_app _ rfl _ _ 22 rfl w.heap.size 3 (.int .i64 0) 1 8 Try.underlying22 info_int rfl (by decide) u _ _ rfl O4.out _ 1 1 [.int .i64 S] rfl (src_one w4 _ _ rfl) (by have := HK33.out; unfold maxLen; omega) (by have := HK33.out; omega) (by have := HKW.out.size; simp; omega) ?_; intro v6 w6 o6 g6 n6; have K6 := Lib.hid (show Kept Nix w w6 from (HKW.out.alloc _).grown g6 (fun kk hkk => .inr (O4.out.lt kk hkk).1)); have O6 := Lib.hid o6; clear o6 g6 n6)
            rw [R1.out]
            refine ⟨⟨rfl, rfl, rfl, rfl, rfl, k + 1, HK.out, rfl, v6, rfl, ?_, K6.out⟩, nearer HK.out rfl⟩
            rw [HT.out, ivs_append, ← HS.out]
            exact O6.out
    · have HK := Lib.hid (show k = m by omega)
      rcases (HHD.out k).2 hlt with ⟨t1, t2, t3, t4, t5⟩ | ⟨t1, t2, t3⟩
      · clear hlt hi
        go_upto_if 23 with fail
        clear t1 t2 t3 t4 t5
        go_wp2
        go_ret
        have h := HOU.out
        rw [HK.out, List.take_of_length_le (Nat.le_of_eq HTL.out)] at h
        exact HO.out _ _ h HKP.out
      · clear hlt hi
        go_upto_if 23 with fail
        clear t1 t2 t3
        go_wp2
        go_ret
        have h := HOU.out
        rw [HK.out, List.take_of_length_le (Nat.le_of_eq HTL.out)] at h
        exact HO.out _ _ h HKP.out

end Go.Proofs.Ytheleifichacjaa
