/- Contracts of the reference's functions of layer 2. -/
import Derived.Test.YtlhplgeohffjeaaRiceTake
import Derived.Test.YtlhplgeohffjeaaRef
namespace Go.Proofs.Ytlhplgeohffjeaa
open Go.RowKit Bx

set_option maxHeartbeats 400000 in
theorem refK_any (n : Int) (w : World) : Calls Try.prog 33 #[.int .i64 n] w fun e w' => e = .returned (.int .i64 (kk n : Nat)) ∧ w = w' := by
  have hw : (kk n : Int) = max 0 (min n 30) := by unfold kk; omega
  have HW := Lib.hid hw
  clear hw
  go_enter Try.func33, Try.ntmps33
  go_wp2
  all_goals
    go_ret
    exact ⟨ret_int (by rw [HW.out]; omega), rfl⟩

set_option maxHeartbeats 400000 in
theorem refFold_any (n : Int) (w : World) (h0 : -9223372036854775808 ≤ n) (h1 : n ≤ 9223372036854775807) : Calls Try.prog 10 #[.int .i64 n] w fun e w' => e = .returned (.int .u64 (fd n : Nat)) ∧ w = w' := by
  have hw : (fd n : Int) = if 0 ≤ n then 2 * n else -(2 * n) - 1 := by unfold fd; split <;> omega
  have HW := Lib.hid hw
  clear hw
  by_cases hn : 0 ≤ n
  · have w1 : IntKind.u64.wrap n = n := by rw [IntKind.wrap_u64]; omega
    go_enter Try.func10, Try.ntmps10
    go_wp2
    go_ret
    refine ⟨ret_int ?_, rfl⟩
    rw [HW.out, if_pos hn]
  · go_enter Try.func10, Try.ntmps10
    go_wp2
    go_ret
    refine ⟨ret_int ?_, rfl⟩
    rw [HW.out, if_neg (by omega)]
    try simp only [IntKind.wrap_u64]
    omega

set_option maxHeartbeats 400000 in
theorem refUnfold_any (u : Nat) (w : World) (h0 : u < 18446744073709551616) : Calls Try.prog 12 #[.int .u64 u] w fun e w' => e = .returned (.int .i64 (uf u)) ∧ w = w' := by
  have hw : (uf u : Int) = if u % 2 = 0 then ((u / 2 : Nat) : Int) else -((u / 2 : Nat) : Int) - 1 := rfl
  have HW := Lib.hid hw
  clear hw
  by_cases hn : u % 2 = 0
  · have t : ((u : Int) % 2 == 0) = true := by simp; omega
    go_enter Try.func12, Try.ntmps12
    go_wp2
    go_ret
    refine ⟨ret_int ?_, rfl⟩
    rw [HW.out, if_pos hn]
    try unfold wrap64
    omega
  · have t : ((u : Int) % 2 == 0) = false := by simp; omega
    go_enter Try.func12, Try.ntmps12
    go_wp2
    go_ret
    refine ⟨ret_int ?_, rfl⟩
    rw [HW.out, if_neg hn]
    try unfold wrap64
    omega

set_option maxHeartbeats 400000 in
theorem refNear_any (n : Int) (w : World) : Calls Try.prog 14 #[.int .i64 n] w fun e w' => e = .returned (.bool (nr n)) ∧ w = w' := by
  go_enter Try.func14, Try.ntmps14
  go_wp2
  all_goals
    go_ret
    refine ⟨congrArg (fun b => Ending.returned (Value.bool b)) ?_, rfl⟩
    simp only [nr]
    first
      | (rw [decide_eq_true (p := -8589934592 ≤ n) (by omega), Bool.true_and]; exact decide_eq_decide.2 (by omega))
      | (rw [decide_eq_false (p := -8589934592 ≤ n) (by omega), Bool.false_and])

def HighInv (w : World) (n k : Int) (a : Act) (w' : World) : Prop :=
  w' = w ∧ a.defers = [] ∧ a.tmps.size = 18 ∧ a.tmps[1]? = some (.int .i64 k) ∧ ∃ i, i ≤ kk k ∧ a.tmps[5]? = some (.int .u64 ((fd n / 2 ^ i : Nat) : Int)) ∧ a.tmps[6]? = some (.int .i64 ((i : Nat) : Int))

set_option maxHeartbeats 400000 in
theorem refHigh_any (n k : Int) (w : World) (h0 : -9223372036854775808 ≤ n) (h1 : n ≤ 9223372036854775807) : Calls Try.prog 17 #[.int .i64 n, .int .i64 k] w fun e w' => e = .returned (.int .u64 ((fd n / 2 ^ kk k : Nat) : Int)) ∧ w = w' := by
  have HF := Lib.hid (refFold_any n w h0 h1)
  have HK := Lib.hid (refK_any k)
  have hkl := kk_le k
  have hfl := fd_lt h0 h1
  go_enter Try.func17, Try.ntmps17
  go_wp2_with (go_at_call 10; refine HF.out.mono ?_; rintro e w' ⟨rfl, rfl⟩)
  refine wp_loop (HighInv w n k) (fun a _ => kk k - (intOf (a.tmps.getD 6 undef)).toNat) ?_ ?_
  · exact ⟨rfl, rfl, rfl, rfl, 0, Nat.zero_le _, by simp, rfl⟩
  · rintro ⟨tm, df⟩ w1 ⟨rfl, rfl, hs, h1, i, hi, h5, h6⟩
    simp only at hs h1 h5 h6
    obtain ⟨f, hf, hg⟩ := fr_open hs
    have e1 := hg _ _ h1
    have e5 := hg _ _ h5
    have e6 := hg _ _ h6
    simp only [List.range, List.range.loop, List.map] at hf
    rw [e1, e5, e6] at hf
    clear e1 e5 e6 hg hs h1 h5 h6 HF
    subst hf
    have hx : fd n / 2 ^ i ≤ fd n := Nat.div_le_self _ _
    have hnx : fd n / 2 ^ (i + 1) = fd n / 2 ^ i / 2 := by rw [Nat.pow_succ, Nat.div_div_eq_div_mul]
    have HNX := Lib.hid hnx
    by_cases hlt : i < kk k
    · generalize fd n / 2 ^ i = x at *
      clear hnx
      go_wp2_with (go_at_call 33; refine (HK.out _).mono ?_; rintro e w' ⟨rfl, rfl⟩)
      refine ⟨⟨rfl, rfl, rfl, rfl, i + 1, by omega, ?_, rfl⟩, ?_⟩
      · rw [HNX.out]; rfl
      · simp [intOf]; omega
    · obtain rfl : i = kk k := by omega
      clear hnx HNX hlt hi
      go_wp2_with (go_at_call 33; refine (HK.out _).mono ?_; rintro e w' ⟨rfl, rfl⟩)
      go_ret
      exact ⟨rfl, rfl⟩

set_option maxHeartbeats 400000 in
theorem refSize_any (n k : Int) (w : World) : Calls Try.prog 16 #[.int .i64 n, .int .i64 k] w fun e w' => e = .returned (.int .i64 (sz n k)) ∧ w = w' := by
  by_cases hn : nr n = true
  · have e1 : sz n k = ((fd n / 2 ^ kk k : Nat) : Int) + 1 + (kk k : Int) := by simp [sz, hn]
    have hkl := kk_le k
    have hh := high_lt hn (kk k)
    have hb := near_bounds hn
    have HN := Lib.hid (refNear_any n w)
    rw [hn] at HN
    have HH := Lib.hid (refHigh_any n k w (by omega) (by omega))
    have HK := Lib.hid (refK_any k w)
    rw [e1]
    clear e1 hn hb
    generalize fd n / 2 ^ kk k = x at *
    generalize kk k = y at *
    go_enter Try.func16, Try.ntmps16
    go_wp2_with (first | (go_at_call 14; refine HN.out.mono ?_; rintro e w' ⟨rfl, rfl⟩) | (go_at_call 33; refine HK.out.mono ?_; rintro e w' ⟨rfl, rfl⟩) | (go_at_call 17; refine HH.out.mono ?_; rintro e w' ⟨rfl, rfl⟩))
    go_ret
    exact ⟨rfl, rfl⟩
  · have e1 : sz n k = -1 := by simp [sz, hn]
    have hn' : nr n = false := by simpa using hn
    have HN := Lib.hid (refNear_any n w)
    rw [hn'] at HN
    rw [e1]
    clear e1 hn hn'
    go_enter Try.func16, Try.ntmps16
    go_wp2_with (go_at_call 14; refine HN.out.mono ?_; rintro e w' ⟨rfl, rfl⟩)
    go_ret
    exact ⟨rfl, rfl⟩

/-- The bits of a rice number. -/
def rbits (n k : Int) : List Bool := (List.replicate (fd n / 2 ^ kk k) false ++ [true]) ++ dg (kk k) (fd n)
theorem rbits_length (n k : Int) : (rbits n k).length = rlen n k := by simp [rbits, rlen, dg_length]; omega
theorem num_rbits (l : List Bool) (n k : Int) : num (l ++ rbits n k) = rlay (num l) n k := by
  rw [rbits, ← List.append_assoc, num_append, ← List.append_assoc, num_snoc, num_append, num_zeros, dg_length, num_dg, List.length_replicate, rlay, Nat.add_zero, Nat.pow_succ]
  congr 2
  rw [Nat.mul_comm 2, Nat.mul_assoc]
  rfl

def RefPutPost (base : Nat) (w : World) (n k : Int) (e : Ending) (w' : World) : Prop :=
  (nr n = false ∧ e = .returned (.tuple #[.slice none 0 0, .int .i64 6]) ∧ w = w') ∨
  (nr n = true ∧ 65535 < fd n / 2 ^ kk k ∧ e = .returned (.tuple #[.slice none 0 0, .int .i64 7]) ∧ w = w') ∨
  (nr n = true ∧ fd n / 2 ^ kk k ≤ 65535 ∧ ∃ v', e = .returned (.tuple #[v', .int .i64 0]) ∧ w'.ownsRow base 4 1 v' (rbits n k).length (bls (rbits n k)) ∧ Kept Nix w w' ∧ ∀ k, v'.ownBlock = some k → w.heap.size ≤ k)

def RefPutInv (base : Nat) (w : World) (n k : Int) (H : Nat) (a : Act) (w' : World) : Prop :=
  a.defers = [] ∧ a.tmps.size = 35 ∧ a.tmps[0]? = some (.int .i64 n) ∧ a.tmps[1]? = some (.int .i64 k) ∧ a.tmps[6]? = some (.int .u64 (H : Int)) ∧ Kept Nix w w' ∧
  ∃ i v, i ≤ H ∧ a.tmps[7]? = some v ∧ a.tmps[8]? = some (.int .u64 ((i : Nat) : Int)) ∧ w'.ownsRow base 4 1 v i (bls (List.replicate i false)) ∧ ∀ k, v.ownBlock = some k → w.heap.size ≤ k

set_option maxRecDepth 100000 in
set_option maxHeartbeats 1000000 in
theorem refPut_any (base : Nat) (n k : Int) (w : World) (h0 : -9223372036854775808 ≤ n) (h1 : n ≤ 9223372036854775807) (hb : base ≤ w.heap.size) : Calls Try.prog 21 #[.int .i64 n, .int .i64 k] w (RefPutPost base w n k) := by
  have HN := refNear_any n w
  have HH := Lib.hid (refHigh_any n k w h0 h1)
  by_cases hn : nr n = true
  · rw [hn] at HN
    have HN := Lib.hid HN
    by_cases hH : fd n / 2 ^ kk k ≤ 65535
    · have HK := Lib.hid (refK_any k)
      have HF := Lib.hid (refFold_any n)
      have hfl := fd_lt h0 h1
      have hkl := kk_le k
      have fin : ∀ v' w', w'.ownsRow base 4 1 v' (rbits n k).length (bls (rbits n k)) → Kept Nix w w' → (∀ k, v'.ownBlock = some k → w.heap.size ≤ k) → RefPutPost base w n k (.returned (.tuple #[v', .int .i64 0])) w' := fun v' w' a b c => .inr (.inr ⟨hn, hH, v', rfl, a, b, c⟩)
      unfold rbits at fin
      have FIN := Lib.hid fin
      have HD := Lib.hid (fun (wx : World) => digits_any base (fd n) ((kk k : Nat) : Int) wx hfl)
      rw [show wid ((kk k : Nat) : Int) = kk k by unfold wid; omega] at HD
      generalize hX : fd n / 2 ^ kk k = H at *
      generalize hU : fd n = u at *
      generalize hKK : kk k = KK at *
      clear fin hn hX hU hKK
      go_enter Try.func21, Try.ntmps21
      go_wp2_with (first | (go_at_call 14; refine HN.out.mono ?_; rintro e w' ⟨rfl, rfl⟩) | (go_at_call 17; refine HH.out.mono ?_; rintro e w' ⟨rfl, rfl⟩))
      refine wp_loop (RefPutInv base w n k H) (fun a _ => H - (intOf (a.tmps.getD 8 undef)).toNat) ?_ ?_
      · exact ⟨rfl, rfl, rfl, rfl, rfl, Kept.refl _ _, 0, _, Nat.zero_le _, rfl, rfl, World.ownsRow_nil _ _ _ _, fun k hk => by simp [Value.ownBlock] at hk⟩
      · rintro ⟨tm, df⟩ w1 ⟨rfl, hs, g0, g1, g6, k1, i, v, hi, g7, g8, o1, n1⟩
        simp only at hs g0 g1 g6 g7 g8
        obtain ⟨f, hf, hg⟩ := fr_open hs
        have e0 := hg _ _ g0
        have e1 := hg _ _ g1
        have e6 := hg _ _ g6
        have e7 := hg _ _ g7
        have e8 := hg _ _ g8
        simp only [List.range, List.range.loop, List.map] at hf
        rw [e0, e1, e6, e7, e8] at hf
        clear e0 e1 e6 e7 e8 hg hs g0 g1 g6 g7 g8 HN HH
        subst hf
        have s1 := k1.size
        obtain ⟨ao, cap, hv, hcap, hmax⟩ := owns_shape o1
        have HO := Lib.hid o1
        have HN1 := Lib.hid n1
        clear o1 n1
        by_cases hlt : i < H
        · subst hv
          go_wp2_with (at_builtin; refine wpList_app _ rfl (.tmp 22) (.tmp 23) 36 rfl base 4 (.bool false) 1 1 Try.underlying36 info_bool rfl (by decide) _ i _ rfl (HO.out.alloc _) _ 1 1 [.bool false] rfl (src_one _ _ _ rfl) ?_ ?_ ?_ ?_)
          · simp only [maxLen]; omega
          · omega
          · simp; omega
          · intro v2 w2 o2 g2 n2
            have k2 : Kept Nix w w2 := (k1.alloc (.cells #[.bool false] 4)).grown g2 (fun k hk => .inr (HN1.out k hk))
            have m2 : ∀ k, v2.ownBlock = some k → w.heap.size ≤ k := by
              intro k hk
              rcases n2 with h | h
              · rw [h] at hk; exact HN1.out k hk
              · rw [h] at hk; simp only [Option.some.injEq] at hk; omega
            obtain ⟨ao2, cap2, hv2, hcap2, hmax2⟩ := owns_shape o2
            have O2 := Lib.hid o2
            subst hv2
            clear o2 g2 n2
            go_wp2
            refine ⟨⟨rfl, rfl, rfl, rfl, rfl, k2, i + 1, _, by omega, rfl, rfl, ?_, m2⟩, ?_⟩
            · simpa [bls, List.replicate_succ'] using O2.out
            · simp [intOf]; omega
        · obtain rfl : i = H := by omega
          subst hv
          have hle : ¬ i < i := by omega
          go_wp2_with (at_builtin; refine wpList_app _ rfl (.tmp 25) (.tmp 26) 36 rfl base 4 (.bool false) 1 1 Try.underlying36 info_bool rfl (by decide) _ i _ rfl (HO.out.alloc _) _ 1 1 [.bool true] rfl (src_one _ _ _ rfl) ?_ ?_ ?_ ?_)
          · simp only [maxLen]; omega
          · omega
          · simp; omega
          · intro v2 w2 o2 g2 n2
            have k2 : Kept Nix w w2 := (k1.alloc (.cells #[.bool true] 4)).grown g2 (fun k hk => .inr (HN1.out k hk))
            have m2 : ∀ k, v2.ownBlock = some k → w.heap.size ≤ k := by
              intro k hk
              rcases n2 with h | h
              · rw [h] at hk; exact HN1.out k hk
              · rw [h] at hk; simp only [Option.some.injEq] at hk; omega
            obtain ⟨ao2, cap2, hv2, hcap2, hmax2⟩ := owns_shape o2
            have s2 := k2.size
            have O2 := Lib.hid o2
            have M2 := Lib.hid m2
            subst hv2
            clear o2 g2 n2 HO HN1 m2
            go_wp2_with (first | (go_at_call 10; refine (HF.out w2 h0 h1).mono ?_; rintro e w' ⟨rfl, rfl⟩) | (go_at_call 33; refine (HK.out _).mono ?_; rintro e w' ⟨rfl, rfl⟩))
            refine (HD.out w2 (by omega)).mono ?_
            rintro e w3 ⟨v3, rfl, o3, k3, n3⟩
            obtain ⟨ao3, cap3, hv3, hsrc3⟩ := src_of_sl (sl_of_owns o3) (bls_one _)
            have S3 := Lib.hid hsrc3
            have O3 := Lib.hid (k3.owns O2.out (fun _ _ h => h))
            have s3 := k3.size
            have hdl : (dg KK u).length = KK := dg_length _ _
            have K3 := Lib.hid (nix_trans k2 k3)
            subst hv3
            clear hsrc3 o3 k3 k2 O2
            go_wp2_with (at_builtin; refine wpList_app _ rfl (.tmp 28) (.tmp 33) 36 rfl base 4 (.bool false) 1 1 Try.underlying36 info_bool rfl (by decide) _ (i + 1) _ rfl O3.out _ _ _ _ rfl S3.out ?_ ?_ ?_ ?_)
            · rw [bls_length, hdl]; simp only [maxLen]; omega
            · rw [bls_length, hdl]; omega
            · omega
            · intro v4 w4 o4 g4 n4
              have m4 : ∀ k, v4.ownBlock = some k → w.heap.size ≤ k := by
                intro k hk
                rcases n4 with h | h
                · rw [h] at hk; exact M2.out k hk
                · rw [h] at hk; simp only [Option.some.injEq] at hk; omega
              have k4 : Kept Nix w w4 := K3.out.grown g4 (fun k hk => .inr (M2.out k hk))
              have o4' : w4.ownsRow base 4 1 v4 (List.replicate i false ++ [true] ++ dg KK u).length (bls (List.replicate i false ++ [true] ++ dg KK u)) := by
                rw [bls_length] at o4
                have e : i + 1 + (dg KK u).length = (List.replicate i false ++ [true] ++ dg KK u).length := by simp; omega
                rw [e] at o4
                simpa [bls] using o4
              have FF := Lib.hid (FIN.out v4 w4 o4' k4 m4)
              obtain ⟨ao4, cap4, hv4, hcap4, hmax4⟩ := owns_shape o4
              subst hv4
              clear o4 o4' k4 m4 g4 n4
              go_wp2
              go_ret2
              exact FF.out
    · have hH2 : 65535 < fd n / 2 ^ kk k := by omega
      have fin : RefPutPost base w n k (.returned (.tuple #[.slice none 0 0, .int .i64 7])) w := .inr (.inl ⟨hn, hH2, rfl, rfl⟩)
      have FIN := Lib.hid fin
      generalize fd n / 2 ^ kk k = H at *
      clear fin hn
      go_enter Try.func21, Try.ntmps21
      go_wp2_with (first | (go_at_call 14; refine HN.out.mono ?_; rintro e w' ⟨rfl, rfl⟩) | (go_at_call 17; refine HH.out.mono ?_; rintro e w' ⟨rfl, rfl⟩))
      go_ret2
      exact FIN.out
  · have hn' : nr n = false := by simpa using hn
    rw [hn'] at HN
    have HN := Lib.hid HN
    have fin : RefPutPost base w n k (.returned (.tuple #[.slice none 0 0, .int .i64 6])) w := .inl ⟨hn', rfl, rfl⟩
    have FIN := Lib.hid fin
    clear fin hn hn'
    go_enter Try.func21, Try.ntmps21
    go_wp2_with (go_at_call 14; refine HN.out.mono ?_; rintro e w' ⟨rfl, rfl⟩)
    go_ret2
    exact FIN.out
end Go.Proofs.Ytlhplgeohffjeaa
