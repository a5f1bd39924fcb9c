/- Contracts of the reference's Width, Digits and Bits. -/
import Derived.Test.YtiibnmejoccfkaaKit
import Derived.Test.YtiibnmejoccfkaaBools
import Derived.Test.YtiibnmejoccfkaaSlice
namespace Go.Proofs.Ytiibnmejoccfkaa
open Go.RowKit Bx

set_option maxHeartbeats 400000 in
theorem width_any (n : Int) (w : World) : Calls Try.prog 25 #[.int .i64 n] w fun e w' => e = .returned (.int .i64 (wid n : Nat)) ∧ w = w' := by
  have hw : (wid n : Int) = max 0 (min n 64) := by unfold wid; omega
  have HW := Lib.hid hw
  clear hw
  go_enter Try.func25, Try.ntmps25
  go_wp2
  all_goals
    go_ret
    exact ⟨ret_int (by rw [HW.out]; omega), rfl⟩

theorem info_bool : (Try.prog.info? 4).map (fun i => (i.zero, i.size, i.bytes)) = some (some (.bool false), 1, 1) := by kernel_rfl

def DigInv (base : Nat) (w : World) (v : Value) (k n : Nat) (a : Act) (w' : World) : Prop :=
  a.defers = [] ∧ a.tmps.size = 27 ∧ a.tmps[6]? = some v ∧ Kept Nix w w' ∧ ∃ j, j ≤ k ∧ a.tmps[0]? = some (.int .u64 ((n / 2 ^ (k - j) : Nat) : Int)) ∧ a.tmps[7]? = some (.int .i64 ((j : Int) - 1)) ∧
    w'.ownsRow base 4 1 v k (bls (List.replicate j false ++ dg (k - j) n))

def DigPost (base : Nat) (w : World) (l : List Bool) (e : Ending) (w' : World) : Prop :=
  ∃ v', e = .returned v' ∧ w'.ownsRow base 4 1 v' l.length (bls l) ∧ Kept Nix w w' ∧ ∀ k, v'.ownBlock = some k → w.heap.size ≤ k

set_option maxHeartbeats 400000 in
theorem digits_any (base n : Nat) (width : Int) (w : World) (hn : n < 18446744073709551616) (hb : base ≤ w.heap.size) :
    Calls Try.prog 24 #[.int .u64 (n : Int), .int .i64 width] w (DigPost base w (dg (wid width) n)) := by
  have hk := wid_le width
  obtain ⟨ib, hib, hz0, hz1, hz2⟩ := info_parts info_bool
  go_enter Try.func24, Try.ntmps24
  go_wp2_with (first | (go_at_call 25; refine (width_any _ _).mono ?_; rintro e w' ⟨rfl, rfl⟩; generalize wid width = k at *) | (at_make; refine wpList_make_full _ rfl (.tmp 10) (.tmp 10) 47 rfl base 4 ib (.bool false) 1 Try.underlying47 hib hz0 hz1 _ _ _ _ k rfl rfl rfl rfl ?_ ?_ ?_ ?_))
  · rw [hz2]; omega
  · simp only [maxLen]; omega
  · exact hb
  · intro w1 ho hg
    have ho1 : w1.ownsRow base 4 1 (.slice (some ⟨w.heap.size, 0, none⟩) k k) k (bls (List.replicate k false ++ dg (k - k) n)) := by
      rw [toList_madeCells_one] at ho
      simpa [bls, dg] using ho
    have k1 : Kept Nix w w1 := (Kept.refl _ w).grown hg (fun k hk => by simp at hk)
    have HO := Lib.hid ho1
    clear ho hg ho1
    go_wp2
    refine wp_loop (DigInv base w (.slice (some ⟨w.heap.size, 0, none⟩) k k) k n) (fun a _ => (intOf (a.tmps.getD 7 undef) + 1).toNat) ?_ ?_
    · refine ⟨rfl, rfl, rfl, k1, k, Nat.le_refl _, ?_, rfl, HO.out⟩
      simp
    · rintro ⟨tm, df⟩ w2 ⟨rfl, hs, h6, k2, j, hj, h0, h7, o2⟩
      simp only at hs h0 h6 h7
      obtain ⟨f, hf, hg⟩ := fr_open hs
      have e0 := hg _ _ h0
      have e6 := hg _ _ h6
      have e7 := hg _ _ h7
      simp only [List.range, List.range.loop, List.map] at hf
      rw [e0, e6, e7] at hf
      clear e0 e6 e7 hg hs h0 h6 h7 HO k1
      subst hf
      cases j with
      | zero =>
        have g1 : decide ((0 : Int) ≤ -1) = false := by decide
        go_wp2
        go_ret
        exact ⟨_, rfl, by simpa [dg_length] using o2, k2, fun k' hk => by have hk' : some w.heap.size = some k' := hk; simp only [Option.some.injEq] at hk'; omega⟩
      | succ j =>
        have hc := o2.cellAt j (by omega)
        have hz := o2.frozenAt j
        have hlen : (bls (List.replicate (j + 1) false ++ dg (k - (j + 1)) n)).length = k := by simp [bls, dg_length]; omega
        rw [List.getElem?_eq_getElem (by omega)] at hc
        obtain ⟨x, hx⟩ : ∃ x, (bls (List.replicate (j + 1) false ++ dg (k - (j + 1)) n))[j]'(by omega) = x := ⟨_, rfl⟩
        rw [hx] at hc
        rw [show (((j + 1 : Nat)) : Int) - 1 = (j : Int) by omega]
        obtain ⟨m, hm⟩ : ∃ m, n / 2 ^ (k - (j + 1)) = m := ⟨_, rfl⟩
        rw [hm]
        have hi1 : (j : Int) < (k : Int) := by omega
        have hmb : m < 18446744073709551616 := by rw [← hm]; exact Nat.lt_of_le_of_lt (Nat.div_le_self _ _) hn
        obtain ⟨t, ht⟩ : ∃ t, (m % 2 == 1) = t := ⟨_, rfl⟩
        have gt : ((m : Int) % 2 == 1) = t := by rw [← ht]; rcases Nat.mod_two_eq_zero_or_one m with h | h <;> simp [h] <;> omega
        have hst := o2.stored j (.bool t)
        have hset : (bls (List.replicate (j + 1) false ++ dg (k - (j + 1)) n)).set j (.bool t) = bls (List.replicate j false ++ dg (k - j) n) := by
          rw [show k - j = (k - (j + 1)) + 1 by omega, dg_head, hm, ht, List.replicate_succ']
          simp [bls]
        rw [hset] at hst
        have HST := Lib.hid hst
        have HM := Lib.hid hm
        clear hst hset hx hm ht hlen o2
        go_wp2
        refine ⟨⟨rfl, rfl, rfl, k2.setCell (.inr (Nat.le_refl _)) _, j, by omega, ?_, rfl, HST.out.1⟩, ?_⟩
        · refine congrArg (fun z => some (Value.int .u64 z)) ?_
          have e : n / 2 ^ (k - j) = m / 2 := by rw [← HM.out, Nat.div_div_eq_div_mul, ← Nat.pow_succ, show (k - (j + 1)).succ = k - j by omega]
          rw [e]
          rfl
        · simp [intOf]

def BitsInv (base : Nat) (w : World) (v : Value) (B : List Nat) (a : Act) (w' : World) : Prop :=
  a.defers = [] ∧ a.tmps.size = 20 ∧ a.tmps[0]? = some v ∧ Kept Nix w w' ∧ ∃ i vo, i ≤ B.length ∧ a.tmps[4]? = some (.int .i64 ((i : Nat) : Int)) ∧ a.tmps[3]? = some vo ∧
    w'.ownsRow base 4 1 vo (8 * i) (bls (bitsOf (B.take i))) ∧ ∀ k, vo.ownBlock = some k → w.heap.size ≤ k

set_option maxHeartbeats 400000 in
theorem bits_any (base : Nat) (v : Value) (B : List Nat) (w : World) (h : Sl w v (u8s B)) (hB : ∀ b ∈ B, b < 256) (hl : B.length ≤ 200) (hb : base ≤ w.heap.size) :
    Calls Try.prog 21 #[v] w (DigPost base w (bitsOf B)) := by
  obtain ⟨ao, cap, rfl⟩ := h.shape
  have HS := Lib.hid h
  clear h
  go_enter Try.func21, Try.ntmps21
  go_wp2
  refine wp_loop (BitsInv base w (.slice ao B.length cap) B) (fun a _ => B.length - (intOf (a.tmps.getD 4 undef)).toNat) ?_ ?_
  · exact ⟨rfl, rfl, rfl, Kept.refl _ _, 0, _, Nat.zero_le _, rfl, rfl, World.ownsRow_nil _ _ _ _, fun k hk => by simp [Value.ownBlock] at hk⟩
  · rintro ⟨tm, df⟩ w2 ⟨rfl, hs, h0, k2, i, vo, hi, h4, h3, o2, n2⟩
    simp only at hs h0 h3 h4
    obtain ⟨f, hf, hg⟩ := fr_open hs
    have e0 := hg _ _ h0
    have e3 := hg _ _ h3
    have e4 := hg _ _ h4
    simp only [List.range, List.range.loop, List.map] at hf
    rw [e0, e3, e4] at hf
    clear e0 e3 e4 hg hs h0 h3 h4
    subst hf
    have s2 := k2.size
    obtain ⟨aoo, capo, hvo, hcapo, hmaxo⟩ := owns_shape o2
    have O2 := Lib.hid o2
    have N2 := Lib.hid n2
    subst hvo
    clear o2 n2
    by_cases hlt : i < B.length
    · obtain ⟨b, off, rfl⟩ := HS.out.where (by omega)
      obtain ⟨b', off', cap', e, _, _, hh⟩ := (HS.out.nix k2).cells (by omega)
      simp only [Value.slice.injEq, Option.some.injEq, Addr.mk.injEq, and_true, true_and] at e
      obtain ⟨⟨rfl, rfl⟩, rfl⟩ := e
      have hd := hh i hlt
      clear hh
      have hx := getD_lt B i hB
      have htk : bitsOf (B.take (i + 1)) = bitsOf (B.take i) ++ dg 8 (B.getD i 0) := by
        rw [List.take_succ_eq_append_getElem hlt, bitsOf_snoc]; simp [hlt]
      generalize B.getD i 0 = x at *
      have HTK := Lib.hid htk
      clear htk
      have hi1 : (i : Int) < (B.length : Int) := by omega
      have gx : IntKind.u64.wrap (x : Int) = (x : Int) := by rw [IntKind.wrap_u64]; omega
      have HD := Lib.hid (digits_any base x 8 w2 (by omega) (by omega))
      have hdl := dg_length 8 x
      have ew : wid 8 = 8 := by decide
      have HDL := Lib.hid hdl
      rw [ew] at HD
      clear hdl ew
      go_wp2_with fail
      refine HD.out.mono ?_
      rintro e w3 ⟨v3, rfl, o3, k3, g3⟩
      obtain ⟨ao3, cap3, hv3, hsrc3⟩ := src_of_sl (sl_of_owns o3) (bls_one _)
      have s3 := k3.size
      rw [bls_length, HDL.out] at hv3 hsrc3
      have HSRC := Lib.hid hsrc3
      have O3 := Lib.hid (k3.owns O2.out (fun _ _ h => h))
      have K3 := Lib.hid (nix_trans k2 k3)
      subst hv3
      clear o3 g3 hsrc3 k3
      go_wp2_with (at_builtin; refine wpList_app _ rfl (.tmp 11) (.tmp 17) 47 rfl base 4 (.bool false) 1 1 Try.underlying47 info_bool rfl (by decide) _ (8 * i) _ rfl O3.out _ 8 cap3 _ rfl HSRC.out ?_ ?_ ?_ ?_)
      · simp only [maxLen]; omega
      · omega
      · omega
      · intro v4 w4 o4 g4 n4
        have k4 : Kept Nix w w4 := K3.out.grown g4 (fun k hk => .inr (N2.out k hk))
        have n4' : ∀ k, v4.ownBlock = some k → w.heap.size ≤ k := by
          intro k hk
          rcases n4 with h | h
          · rw [h] at hk; exact N2.out k hk
          · rw [h] at hk; simp only [Option.some.injEq] at hk; omega
        have o4' : w4.ownsRow base 4 1 v4 (8 * (i + 1)) (bls (bitsOf (B.take (i + 1)))) := by
          rw [HTK.out, bls_append, show 8 * (i + 1) = 8 * i + 8 by omega]; exact o4
        obtain ⟨ao4, cap4, hv4, hcap4, hmax4⟩ := owns_shape o4
        have O4 := Lib.hid o4'
        clear o4 o4' g4 n4
        subst hv4
        go_wp2
        refine ⟨⟨rfl, rfl, rfl, k4, i + 1, _, hlt, rfl, rfl, O4.out, n4'⟩, ?_⟩
        simp [intOf]
        omega
    · have hit : ¬ i < B.length := hlt
      have e1 : B.take i = B := List.take_of_length_le (by omega)
      have e2 : 8 * i = (bitsOf B).length := by rw [bitsOf_length _ B rfl]; omega
      have HE := Lib.hid (And.intro e1 e2)
      clear e1 e2
      go_wp2
      go_ret
      exact ⟨_, rfl, by have h := O2.out; rw [HE.out.1] at h; exact (congrArg (fun n => w2.ownsRow base 4 1 (.slice aoo (8 * i) capo) n (bls (bitsOf B))) HE.out.2).mp h, k2, N2.out⟩

end Go.Proofs.Ytiibnmejoccfkaa
