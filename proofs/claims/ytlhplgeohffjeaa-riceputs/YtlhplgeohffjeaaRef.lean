/- Contracts of the reference's functions on lists of bits. -/
import Derived.Test.YtlhplgeohffjeaaBitsSep
import Derived.Test.YtlhplgeohffjeaaArgs
namespace Go.Proofs.Ytlhplgeohffjeaa
open Go.RowKit Bx

set_option maxHeartbeats 400000 in
theorem width_any (n : Int) (w : World) : Calls Try.prog 37 #[.int .i64 n] w fun e w' => e = .returned (.int .i64 (wid n : Nat)) ∧ w = w' := by
  have hw : (wid n : Int) = max 0 (min n 64) := by unfold wid; omega
  have HW := Lib.hid hw
  clear hw
  go_enter Try.func37, Try.ntmps37
  go_wp2
  all_goals
    go_ret
    exact ⟨ret_int (by rw [HW.out]; omega), rfl⟩

def NumInv (v : Value) (l : List Bool) (w : World) (a : Act) (w' : World) : Prop :=
  w' = w ∧ a.defers = [] ∧ a.tmps.size = 20 ∧ a.tmps[0]? = some v ∧ ∃ i, i ≤ l.length ∧ a.tmps[3]? = some (.int .u64 ((num (l.take i) : Nat) : Int)) ∧ a.tmps[4]? = some (.int .i64 ((i : Nat) : Int))

set_option maxHeartbeats 400000 in
theorem number_any (v : Value) (l : List Bool) (w : World) (h : Sl w v (bls l)) (hl : l.length ≤ 64) :
    Calls Try.prog 39 #[v] w fun e w' => e = .returned (.int .u64 ((num l : Nat) : Int)) ∧ w = w' := by
  obtain ⟨ao, cap, rfl, hcap, hmax, hp⟩ := h.bools
  have HP := Lib.hid hp
  clear hp h
  go_enter Try.func39, Try.ntmps39
  go_wp2
  refine wp_loop (NumInv (.slice ao l.length cap) l w) (fun a _ => l.length - (intOf (a.tmps.getD 4 undef)).toNat) ?_ ?_
  · exact ⟨rfl, rfl, rfl, rfl, 0, Nat.zero_le _, rfl, rfl⟩
  · rintro ⟨tm, df⟩ w1 ⟨rfl, rfl, hs, h0, i, hi, h3, h4⟩
    simp only at hs h0 h3 h4
    obtain ⟨f, hf, hg⟩ := fr_open hs
    have e0 := hg _ _ h0
    have e3 := hg _ _ h3
    have e4 := hg _ _ h4
    simp only [List.range, List.range.loop, List.map] at hf
    rw [e0, e3, e4] at hf
    clear e0 e3 e4 hg hs h0 h3 h4
    subst hf
    by_cases hlt : i < l.length
    · obtain ⟨b, off, rfl, _, hc⟩ := HP.out (by omega)
      have hd := hc i hlt
      clear hc
      have hi1 : (i : Int) < (l.length : Int) := by omega
      have hnl := num_lt i (l.take i) (by rw [List.length_take]; omega)
      have hp63 : 2 ^ i ≤ 2 ^ 63 := Nat.pow_le_pow_right (by decide) (by omega)
      have htk : num (l.take (i + 1)) = 2 * num (l.take i) + (l.getD i false).toNat := by
        rw [List.take_succ_eq_append_getElem hlt, num_snoc]; simp [hlt]
      have HTK := Lib.hid htk
      clear htk
      generalize num (l.take i) = n at *
      have hn : n < 9223372036854775808 := by omega
      clear hnl hp63
      cases hb : l.getD i false
      · rw [hb] at hd HTK
        clear hb
        go_wp2
        refine ⟨⟨rfl, rfl, rfl, rfl, i + 1, hlt, ?_, rfl⟩, ?_⟩
        · exact congrArg (fun z => some (Value.int .u64 z)) (by rw [HTK.out]; simp)
        · simp [intOf]
          omega
      · rw [hb] at hd HTK
        clear hb
        go_wp2
        refine ⟨⟨rfl, rfl, rfl, rfl, i + 1, hlt, ?_, rfl⟩, ?_⟩
        · exact congrArg (fun z => some (Value.int .u64 z)) (by rw [HTK.out]; simp)
        · simp [intOf]
          omega
    · go_wp2
      go_ret
      exact ⟨by rw [List.take_of_length_le (by omega)]; rfl, rfl⟩

theorem info_bool : (Try.prog.info? 4).map (fun i => (i.zero, i.size, i.bytes)) = some (some (.bool false), 1, 1) := by kernel_rfl

def DigInv (base : Nat) (w : World) (v : Value) (k n : Nat) (a : Act) (w' : World) : Prop :=
  a.defers = [] ∧ a.tmps.size = 27 ∧ a.tmps[6]? = some v ∧ Kept Nix w w' ∧ ∃ j, j ≤ k ∧ a.tmps[0]? = some (.int .u64 ((n / 2 ^ (k - j) : Nat) : Int)) ∧ a.tmps[7]? = some (.int .i64 ((j : Int) - 1)) ∧
    w'.ownsRow base 4 1 v k (bls (List.replicate j false ++ dg (k - j) n))

def DigPost (base : Nat) (w : World) (l : List Bool) (e : Ending) (w' : World) : Prop :=
  ∃ v', e = .returned v' ∧ w'.ownsRow base 4 1 v' l.length (bls l) ∧ Kept Nix w w' ∧ ∀ k, v'.ownBlock = some k → w.heap.size ≤ k

set_option maxHeartbeats 400000 in
theorem digits_any (base n : Nat) (width : Int) (w : World) (hn : n < 18446744073709551616) (hb : base ≤ w.heap.size) :
    Calls Try.prog 22 #[.int .u64 (n : Int), .int .i64 width] w (DigPost base w (dg (wid width) n)) := by
  have hk := wid_le width
  obtain ⟨ib, hib, hz0, hz1, hz2⟩ := info_parts info_bool
  go_enter Try.func22, Try.ntmps22
  go_wp2_with (first | (go_at_call 37; refine (width_any _ _).mono ?_; rintro e w' ⟨rfl, rfl⟩; generalize wid width = k at *) | (at_make; refine wpList_make_full _ rfl (.tmp 10) (.tmp 10) 36 rfl base 4 ib (.bool false) 1 Try.underlying36 hib hz0 hz1 _ _ _ _ k rfl rfl rfl rfl ?_ ?_ ?_ ?_))
  · rw [hz2]; omega
  · simp only [maxLen]; omega
  · exact hb
  · intro w1 ho hg
    have ho1 : w1.ownsRow base 4 1 (.slice (some ⟨w.heap.size, 0, none⟩) k k) k (bls (List.replicate k false ++ dg (k - k) n)) := by
      rw [toList_madeCells_one] at ho
      simpa [bls, dg] using ho
    have k1 : Kept Nix w w1 := (Kept.refl _ w).grown hg (fun k hk => by simp at hk)
    have HO := Lib.hid ho1
    clear ho hg ho1
    go_wp2
    refine wp_loop (DigInv base w (.slice (some ⟨w.heap.size, 0, none⟩) k k) k n) (fun a _ => (intOf (a.tmps.getD 7 undef) + 1).toNat) ?_ ?_
    · refine ⟨rfl, rfl, rfl, k1, k, Nat.le_refl _, ?_, rfl, HO.out⟩
      simp
    · rintro ⟨tm, df⟩ w2 ⟨rfl, hs, h6, k2, j, hj, h0, h7, o2⟩
      simp only at hs h0 h6 h7
      obtain ⟨f, hf, hg⟩ := fr_open hs
      have e0 := hg _ _ h0
      have e6 := hg _ _ h6
      have e7 := hg _ _ h7
      simp only [List.range, List.range.loop, List.map] at hf
      rw [e0, e6, e7] at hf
      clear e0 e6 e7 hg hs h0 h6 h7 HO k1
      subst hf
      cases j with
      | zero =>
        have g1 : decide ((0 : Int) ≤ -1) = false := by decide
        go_wp2
        go_ret
        exact ⟨_, rfl, by simpa [dg_length] using o2, k2, fun k' hk => by have hk' : some w.heap.size = some k' := hk; simp only [Option.some.injEq] at hk'; omega⟩
      | succ j =>
        have hc := o2.cellAt j (by omega)
        have hz := o2.frozenAt j
        have hlen : (bls (List.replicate (j + 1) false ++ dg (k - (j + 1)) n)).length = k := by simp [bls, dg_length]; omega
        rw [List.getElem?_eq_getElem (by omega)] at hc
        obtain ⟨x, hx⟩ : ∃ x, (bls (List.replicate (j + 1) false ++ dg (k - (j + 1)) n))[j]'(by omega) = x := ⟨_, rfl⟩
        rw [hx] at hc
        rw [show (((j + 1 : Nat)) : Int) - 1 = (j : Int) by omega]
        obtain ⟨m, hm⟩ : ∃ m, n / 2 ^ (k - (j + 1)) = m := ⟨_, rfl⟩
        rw [hm]
        have hi1 : (j : Int) < (k : Int) := by omega
        have hmb : m < 18446744073709551616 := by rw [← hm]; exact Nat.lt_of_le_of_lt (Nat.div_le_self _ _) hn
        obtain ⟨t, ht⟩ : ∃ t, (m % 2 == 1) = t := ⟨_, rfl⟩
        have gt : ((m : Int) % 2 == 1) = t := by rw [← ht]; rcases Nat.mod_two_eq_zero_or_one m with h | h <;> simp [h] <;> omega
        have hst := o2.stored j (.bool t)
        have hset : (bls (List.replicate (j + 1) false ++ dg (k - (j + 1)) n)).set j (.bool t) = bls (List.replicate j false ++ dg (k - j) n) := by
          rw [show k - j = (k - (j + 1)) + 1 by omega, dg_head, hm, ht, List.replicate_succ']
          simp [bls]
        rw [hset] at hst
        have HST := Lib.hid hst
        have HM := Lib.hid hm
        clear hst hset hx hm ht hlen o2
        go_wp2
        refine ⟨⟨rfl, rfl, rfl, k2.setCell (.inr (Nat.le_refl _)) _, j, by omega, ?_, rfl, HST.out.1⟩, ?_⟩
        · refine congrArg (fun z => some (Value.int .u64 z)) ?_
          have e : n / 2 ^ (k - j) = m / 2 := by rw [← HM.out, Nat.div_div_eq_div_mul, ← Nat.pow_succ, show (k - (j + 1)).succ = k - j by omega]
          rw [e]
          rfl
        · simp [intOf]

def BysInv1 (base : Nat) (w : World) (l : List Bool) (a : Act) (w' : World) : Prop :=
  a.defers = [] ∧ a.tmps.size = 33 ∧ Kept Nix w w' ∧ ∃ j v, j ≤ pad l.length ∧ a.tmps[3]? = some v ∧ w'.ownsRow base 4 1 v (l.length + j) (bls (l ++ List.replicate j false)) ∧ ∀ k, v.ownBlock = some k → w.heap.size ≤ k

def BysInv2 (base : Nat) (w : World) (v : Value) (all : List Bool) (a : Act) (w' : World) : Prop :=
  a.defers = [] ∧ a.tmps.size = 33 ∧ a.tmps[3]? = some v ∧ Kept Nix w w' ∧ w'.ownsRow base 4 1 v all.length (bls all) ∧
  ∃ t vo R, 8 * t ≤ all.length ∧ a.tmps[4]? = some vo ∧ a.tmps[5]? = some (.int .i64 ((8 * t : Nat) : Int)) ∧ w'.ownsRow base 5 1 vo t (u8s R) ∧ R.length = t ∧ (∀ b ∈ R, b < 256) ∧ be R = num (all.take (8 * t)) ∧
    (∀ k, vo.ownBlock = some k → w.heap.size ≤ k) ∧ Disj (Own v) (Own vo)

def BysPost (base : Nat) (w : World) (l : List Bool) (e : Ending) (w' : World) : Prop :=
  ∃ v' R, e = .returned v' ∧ w'.ownsRow base 5 1 v' R.length (u8s R) ∧ Pk R (num l) l.length (pad l.length) ∧ Kept Nix w w' ∧ ∀ k, v'.ownBlock = some k → w.heap.size ≤ k

set_option maxHeartbeats 400000 in
theorem bys_any (base : Nat) (v : Value) (l : List Bool) (w : World) (h : Sl w v (bls l)) (hl : l.length < 1000000) (hb : base ≤ w.heap.size) :
    Calls Try.prog 26 #[v] w (BysPost base w l) := by
  obtain ⟨ao, cap, rfl, hsrc⟩ := src_of_sl h (bls_one l)
  have HS := Lib.hid hsrc
  clear hsrc h
  rw [bls_length] at *
  go_enter Try.func26, Try.ntmps26
  go_wp2_with (at_builtin; refine wpList_app _ rfl (.tmp 6) (.tmp 7) 36 rfl base 4 (.bool false) 1 1 Try.underlying36 info_bool rfl (by decide) (.slice (some ⟨w.heap.size, 0, none⟩) 0 0) 0 [] rfl ?_ ao l.length cap (bls l) rfl ?_ ?_ ?_ ?_ ?_)
  · exact World.ownsRow_made w #[] 0 hb (by simp [maxLen]) rfl
  · exact HS.out.alloc _
  · simp only [maxLen]; omega
  · omega
  · simp; omega
  · intro v1 w1 ho1 hg1 hv1
    have k1 : Kept Nix w w1 := ((Kept.refl _ w).alloc (.cells #[] 4)).grown hg1 (fun k hk => .inr (by have hk' : some w.heap.size = some k := hk; simp only [Option.some.injEq] at hk'; omega))
    have n1 : ∀ k, v1.ownBlock = some k → w.heap.size ≤ k := by
      intro k hk
      rcases hv1 with h | h
      · rw [h] at hk; have hk' : some w.heap.size = some k := hk; simp only [Option.some.injEq] at hk'; omega
      · rw [h] at hk; simp only [Option.some.injEq] at hk; omega
    have HO := Lib.hid ho1
    have HN := Lib.hid n1
    clear ho1 hg1 hv1 n1 HS
    go_wp2
    refine wp_loop (BysInv1 base w l) (fun a _ => l.length + 8 - slen (a.tmps.getD 3 undef)) ?_ ?_
    · exact ⟨rfl, rfl, k1, 0, v1, Nat.zero_le _, rfl, by simpa using HO.out, HN.out⟩
    · rintro ⟨tm, df⟩ w2 ⟨rfl, hs, k2, j, v2, hj, h3, o2, n2⟩
      simp only at hs h3
      obtain ⟨f, hf, hg⟩ := fr_open hs
      have e3 := hg _ _ h3
      simp only [List.range, List.range.loop, List.map] at hf
      rw [e3] at hf
      clear e3 hg hs h3 HO HN k1
      subst hf
      obtain ⟨ao2, cap2, hv2, hcap2, hmax2⟩ := owns_shape o2
      have hpd := pad_le l.length
      have hpm := pad_mod l.length
      have s2 := k2.size
      by_cases hjp : j = pad l.length
      · subst hjp
        obtain ⟨all, hall⟩ : ∃ all, l ++ List.replicate (pad l.length) false = all := ⟨_, rfl⟩
        have hal : all.length = l.length + pad l.length := by rw [← hall]; simp
        have hnum : num all = num l * 2 ^ pad l.length := by rw [← hall, num_append, num_zeros]; simp
        rw [hall, ← hal] at o2
        rw [← hal] at hv2 hcap2
        have g1 : ((all.length : Int) % 8 != 0) = false := by simp; omega
        have hal8 : all.length % 8 = 0 := by omega
        have hall2 : all.length < 1000008 := by omega
        have O2 := Lib.hid o2
        have N2 := Lib.hid n2
        have HNUM := Lib.hid hnum
        have HAL := Lib.hid hal
        have HAL8 := Lib.hid hal8
        subst hv2
        clear hall hnum hal o2 n2 hpm hj hal8
        go_wp2
        refine wp_loop (BysInv2 base w (.slice ao2 all.length cap2) all) (fun a _ => all.length - (intOf (a.tmps.getD 5 undef)).toNat) ?_ ?_
        · exact ⟨rfl, rfl, rfl, k2, O2.out, 0, _, [], Nat.zero_le _, rfl, rfl, World.ownsRow_nil _ _ _ _, rfl, by simp, by simp [num, be], fun k hk => by simp [Value.ownBlock] at hk, fun k _ hk => by simp [Own, Value.ownBlock] at hk⟩
        · rintro ⟨tm, df⟩ w3 ⟨rfl, hs, h3, k3, o3, t, vo, R, ht8, h4, h5, oR, hRl, hR, hbe, nR, dR⟩
          simp only at hs h3 h4 h5
          obtain ⟨f3, hf, hg⟩ := fr_open hs
          have e3 := hg _ _ h3
          have e4 := hg _ _ h4
          have e5 := hg _ _ h5
          simp only [List.range, List.range.loop, List.map] at hf
          rw [e3, e4, e5] at hf
          clear e3 e4 e5 hg hs h3 h4 h5 O2 k2
          subst hf
          have s3 := k3.size
          obtain ⟨aoR, capR, hvR, hcapR, hmaxR⟩ := owns_shape oR
          have HR := Lib.hid hR
          have HBE := Lib.hid hbe
          have HRL := Lib.hid hRl
          have hal8 := HAL8.out
          by_cases hlt : 8 * t < all.length
          · have ht9 : 8 * t + 8 ≤ all.length := by omega
            obtain ⟨g, cap', hv', hcap', hmax', hbg, hgl⟩ := owns_pos o3 (by omega)
            simp only [Value.slice.injEq, true_and] at hv'
            obtain ⟨rfl, rfl⟩ := hv'
            have hsl := (sl_of_owns o3).part (8 * t) 8 (by rw [bls_length]; omega) (by decide)
            rw [Nat.zero_add] at hsl
            have hpt : ((bls all).drop (8 * t)).take 8 = bls ((all.drop (8 * t)).take 8) := by simp [bls, List.map_drop, List.map_take]
            rw [hpt] at hsl
            have hpl : ((all.drop (8 * t)).take 8).length = 8 := by simp; omega
            have hx := num_lt 8 _ hpl
            have HNB := Lib.hid (number_any _ _ w3 hsl (by omega))
            have htk : num (all.take (8 * (t + 1))) = num (all.take (8 * t)) * 256 + num ((all.drop (8 * t)).take 8) := by
              rw [show 8 * (t + 1) = 8 * t + 8 by omega, List.take_add, num_append, hpl]
            generalize num ((all.drop (8 * t)).take 8) = x at *
            have HTK := Lib.hid htk
            have HO3 := Lib.hid o3
            have HOR := Lib.hid oR
            have HNR := Lib.hid nR
            have HDR := Lib.hid dR
            have gx : IntKind.u8.wrap (x : Int) = (x : Int) := by rw [IntKind.wrap_u8]; omega
            have gl : (8 * (t : Int)) < (all.length : Int) := by omega
            have gl2 : (8 * (t : Int)) + 8 ≤ (all.length : Int) := by omega
            have gl3 : 8 * t + 8 ≤ cap2 := by omega
            clear htk o3 oR nR dR hsl hpt hpl hRl hbe hR
            subst hvR
            go_wp2_with (first | (go_at_call 39; refine HNB.out.mono ?_; rintro e w' ⟨rfl, rfl⟩) | (at_builtin; refine wpList_app _ rfl (.tmp 22) (.tmp 30) 42 rfl base 5 (.int .u8 0) 1 1 Try.underlying42 info_u8 rfl (by decide) _ t _ rfl (HOR.out.alloc _) _ 1 1 [.int .u8 (x : Int)] rfl (src_one _ _ _ rfl) ?_ ?_ ?_ ?_))
            · simp only [maxLen]; omega
            · omega
            · simp; omega
            · intro v4 w4 ho4 hg4 hv4
              have k4 : Kept Nix w w4 := (k3.alloc (.cells #[.int .u8 (x : Int)] 5)).grown hg4 (fun k hk => .inr (HNR.out k hk))
              have n4 : ∀ k, v4.ownBlock = some k → w.heap.size ≤ k := by
                intro k hk
                rcases hv4 with h | h
                · rw [h] at hk; exact HNR.out k hk
                · rw [h] at hk; simp only [Option.some.injEq] at hk; omega
              have hoa := HO3.out.alloc (.cells #[.int .u8 (x : Int)] 5)
              have o4 := hoa.kept hg4 (.inr (fun e => HDR.out g rfl e.symm))
              have d4 : Disj (Own (.slice (some ⟨g, 0, none⟩) all.length cap2)) (Own v4) := by
                intro k h1 h2
                rcases hv4 with h | h
                · exact HDR.out k h1 (by unfold Own at h2 ⊢; rw [← h]; exact h2)
                · have h1' : some g = some k := h1
                  unfold Own at h2
                  rw [h] at h2
                  simp only [Option.some.injEq] at h1' h2
                  omega
              obtain ⟨ao4, cap4, hv4', hcap4, hmax4⟩ := owns_shape ho4
              have HO4 := Lib.hid ho4
              clear ho4 hoa hg4 hv4
              subst hv4'
              go_wp2
              refine ⟨⟨rfl, rfl, rfl, k4, o4, t + 1, _, R ++ [x], by omega, rfl, ?_, ?_, ?_, ?_, ?_, n4, d4⟩, ?_⟩
              · exact congrArg (fun z => some (Value.int .i64 z)) (by omega)
              · simpa [u8s] using HO4.out
              · simp [HRL.out]
              · intro b hb
                rcases List.mem_append.1 hb with hb | hb
                · exact HR.out b hb
                · simp at hb; omega
              · rw [be_snoc, HTK.out, HBE.out]
              · simp [intOf]
                omega
          · have ht1 : 8 * t = all.length := by omega
            have gl : decide (8 * (t : Int) < (all.length : Int)) = false := by simp; omega
            have gl2 : ¬ (8 * (t : Int) < (all.length : Int)) := by omega
            have gl3 : ¬ 8 * t < all.length := by omega
            have HT1 := Lib.hid ht1
            have HOR := Lib.hid oR
            clear ht1 oR o3 dR hRl hbe hR hal8
            subst hvR
            go_wp2
            go_ret
            refine ⟨_, R, rfl, by rw [HRL.out]; exact HOR.out, ⟨HR.out, ?_, ?_, ?_⟩, k3, nR⟩
            · rw [HRL.out, HT1.out, HAL.out]
            · rw [HBE.out, HT1.out, List.take_length, HNUM.out]
            · exact num_lt _ _ rfl
      · have g1 : (((l.length + j : Nat) : Int) % 8 != 0) = true := by simp; unfold pad at hj hjp; omega
        have g2 : (((l.length : Int) + (j : Int)) % 8 != 0) = true := by simp; unfold pad at hj hjp; omega
        have HO := Lib.hid o2
        have HN := Lib.hid n2
        subst hv2
        clear o2 n2 hpm
        go_wp2_with (at_builtin; refine wpList_app _ rfl (.tmp 13) (.tmp 14) 36 rfl base 4 (.bool false) 1 1 Try.underlying36 info_bool rfl (by decide) _ (l.length + j) _ rfl (HO.out.alloc _) _ 1 1 [.bool false] rfl (src_one _ _ _ rfl) ?_ ?_ ?_ ?_)
        · simp only [maxLen]; omega
        · omega
        · simp; omega
        · intro v3 w3 ho3 hg3 hv3
          have k3 : Kept Nix w w3 := (k2.alloc (.cells #[.bool false] 4)).grown hg3 (fun k hk => .inr (HN.out k hk))
          have n3 : ∀ k, v3.ownBlock = some k → w.heap.size ≤ k := by
            intro k hk
            rcases hv3 with h | h
            · rw [h] at hk; exact HN.out k hk
            · rw [h] at hk; simp only [Option.some.injEq] at hk; omega
          obtain ⟨ao3, cap3, hv3', hcap3, hmax3⟩ := owns_shape ho3
          subst hv3'
          go_wp2
          refine ⟨⟨rfl, rfl, k3, j + 1, _, by omega, rfl, ?_, n3⟩, ?_⟩
          · rw [← Nat.add_assoc]
            simpa [bls, List.replicate_succ'] using ho3
          · simp [slen]
            omega
end Go.Proofs.Ytlhplgeohffjeaa
