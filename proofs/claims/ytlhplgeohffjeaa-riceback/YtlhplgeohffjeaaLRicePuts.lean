/- The walk of the statement RicePuts. -/
import Derived.Test.YtlhplgeohffjeaaLRice
namespace Go.Proofs.Ytlhplgeohffjeaa
open Go.RowKit Bx

theorem sl_nil (w : World) : Sl w (.slice none 0 0) (bls []) := ⟨none, 0, rfl, Nat.le_refl _, by simp [maxLen], fun _ => rfl, fun h => by simp [bls] at h⟩

/-- What a put tells, and the bits that it lays, in every case. -/
def rerr (n k : Int) : Int := if nr n = true then (if 65535 < fd n / 2 ^ kk k then 7 else 0) else 6
def rl (n k : Int) : List Bool := if nr n = true ∧ fd n / 2 ^ kk k ≤ 65535 then rbits n k else []

theorem ricePut_all (base p : Nat) (v : Value) (N c : Nat) (n k : Int) (w : World) (hw : Wr base w p v N c (pad c)) (hc : c < 1099511000000) (hb : base ≤ w.heap.size) :
    Calls Try.prog 20 #[.pointer (some ⟨p, 0, none⟩), .int .i64 n, .int .i64 k] w fun e w' => e = .returned (.int .i64 (rerr n k)) ∧ PutPost base w p v (N * 2 ^ (rl n k).length + num (rl n k)) (c + (rl n k).length) w' := by
  refine (ricePut_any base p v N c n k w hw hc hb).mono ?_
  rintro e w' (⟨h, rfl, rfl⟩ | ⟨h, h2, rfl, rfl⟩ | ⟨h, h2, rfl, hp⟩)
  · refine ⟨by simp [rerr, h], ?_⟩
    have e1 : rl n k = [] := by simp [rl, h]
    rw [e1]
    exact ⟨v, by simpa [num, pad] using hw, Kept.refl _ _, .inl rfl⟩
  · refine ⟨by simp [rerr, h, h2], ?_⟩
    have e1 : rl n k = [] := by simp [rl, h]; omega
    rw [e1]
    exact ⟨v, by simpa [num, pad] using hw, Kept.refl _ _, .inl rfl⟩
  · refine ⟨by simp [rerr, h]; omega, ?_⟩
    have e1 : rl n k = rbits n k := by simp [rl, h, h2]
    have e2 := num_rbits (dg c N) n k
    rw [num_append] at e2
    have e3 : rlay N n k = N * 2 ^ (rbits n k).length + num (rbits n k) := by
      have h3 := num_rbits [] n k
      rw [List.nil_append, num_nil] at h3
      rw [h3, rbits_length]
      unfold rlay rlen
      rw [Nat.zero_mul, Nat.zero_add, Nat.one_mul, Nat.add_mul, Nat.one_mul, Nat.mul_assoc, ← Nat.pow_add, Nat.add_assoc]
    rw [e1, ← e3, rbits_length]
    exact hp

theorem refPut_all (base : Nat) (n k : Int) (w : World) (h0 : -9223372036854775808 ≤ n) (h1 : n ≤ 9223372036854775807) (hb : base ≤ w.heap.size) : Calls Try.prog 21 #[.int .i64 n, .int .i64 k] w
    fun e w' => ∃ v', e = .returned (.tuple #[v', .int .i64 (rerr n k)]) ∧ Sl w' v' (bls (rl n k)) ∧ Kept Nix w w' := by
  refine (refPut_any base n k w h0 h1 hb).mono ?_
  rintro e w' (⟨h, rfl, rfl⟩ | ⟨h, h2, rfl, rfl⟩ | ⟨h, h2, v', rfl, ho, hk, _⟩)
  · exact ⟨.slice none 0 0, by simp [rerr, h], by simpa [rl, h] using sl_nil w, Kept.refl _ _⟩
  · exact ⟨.slice none 0 0, by simp [rerr, h, h2], by simpa [rl, h, Nat.not_le.2 h2] using sl_nil w, Kept.refl _ _⟩
  · exact ⟨v', by simp [rerr, h, Nat.not_lt.2 h2], by simpa [rl, h, h2] using sl_of_owns ho, hk⟩

set_option maxRecDepth 100000 in
set_option maxHeartbeats 1000000 in
theorem walk_RicePuts (w : World) (n : Int) (w0 : (Lit.int .i64 n).wf = true) (k : Int) (_w1 : (Lit.int .i64 k).wf = true) (ah : Int) (w2 : (Lit.int .u32 ah).wf = true) :
    Calls Try.prog 4 #[.int .i64 n, .int .i64 k, .int .u32 ah] w fun e w' => e = .returned (.bool true) ∧ Kept Nix w w' := by
  have b0 := bounds_i64 w0
  have b2 := bounds_u32 w2
  obtain ⟨ah, rfl⟩ := Int.eq_ofNat_of_zero_le b2.1
  clear w0 w2
  have HA := Lib.hid (awake_any w)
  have HN := Lib.hid (refNear_any n)
  have HH := Lib.hid (refHigh_any n k)
  have hkl := kk_le k
  by_cases hD : nr n = true ∧ 300 < fd n / 2 ^ kk k ∧ fd n / 2 ^ kk k ≤ 65535
  · obtain ⟨hn, h1, h2⟩ := hD
    rw [hn] at HN
    generalize fd n / 2 ^ kk k = H at *
    clear hn
    go_enter Try.func4, Try.ntmps4
    go_wp2_with fail
    refine HA.out.mono ?_
    rintro e w1 ⟨rfl, k1⟩
    go_wp2_with (first | (go_at_call 14; refine (HN.out _).mono ?_; rintro e w' ⟨rfl, rfl⟩) | (go_at_call 17; refine (HH.out _ b0.1 b0.2).mono ?_; rintro e w' ⟨rfl, rfl⟩))
    go_ret
    exact ⟨rfl, k1⟩
  · have hrl : (rl n k).length ≤ 400 := by
      unfold rl
      split
      · rename_i h
        have : ¬ 300 < fd n / 2 ^ kk k := fun h2 => hD ⟨h.1, h2, h.2⟩
        rw [rbits_length, rlen]; omega
      · simp
    have HDD := Lib.hid hD
    have HPA := Lib.hid (fun p v N c (wx : World) => ricePut_all w.heap.size p v N c n k wx)
    have HRA := Lib.hid (fun (wx : World) => refPut_all w.heap.size n k wx b0.1 b0.2)
    generalize rl n k = L at *
    generalize rerr n k = E at *
    generalize hHH : fd n / 2 ^ kk k = H at *
    generalize hnn : nr n = nn at *
    clear hHH hD hnn
    obtain ⟨D, hDg⟩ : ∃ D, dg (ah % 21) ah = D := ⟨_, rfl⟩
    have hDl : D.length = ah % 21 := by rw [← hDg, dg_length]
    have hDn : num D = ah % 2 ^ (ah % 21) := by rw [← hDg, num_dg]
    have hDb : D.length ≤ 20 := by omega
    have HDL := Lib.hid hDl
    have HDN := Lib.hid hDn
    have HDG := Lib.hid hDg
    clear hDl hDn hDg
    go_enter Try.func4, Try.ntmps4
    go_wp2_with fail
    refine HA.out.mono ?_
    rintro e w1 ⟨rfl, k1⟩
    have s1 := k1.size
    go_upto_region 4 with (first | (go_at_call 14; refine (HN.out _).mono ?_; rintro e w' ⟨rfl, rfl⟩) | (go_at_call 17; refine (HH.out _ b0.1 b0.2).mono ?_; rintro e w' ⟨rfl, rfl⟩))
    refine wp_cut (fun a' w' => w' = w1 ∧ a'.defers = [] ∧ a'.tmps.size = 79 ∧ a'.tmps[0]? = some (.int .i64 n) ∧ a'.tmps[1]? = some (.int .i64 k) ∧ a'.tmps[2]? = some (.int .u32 (ah : Int)) ∧ a'.tmps[7]? = some (.bool true) ∧ a'.tmps[29]? = some (.bool false)) ?_ ?_
    · rintro ⟨tm, df⟩ w2 ⟨rfl, rfl, hs, h0, h1, h2, h7, h29⟩
      simp only at hs h0 h1 h2 h7 h29
      obtain ⟨f, hf, hg⟩ := fr_open hs
      have e0 := hg _ _ h0
      have e1 := hg _ _ h1
      have e2 := hg _ _ h2
      have e7 := hg _ _ h7
      have e29 := hg _ _ h29
      simp only [List.range, List.range.loop, List.map] at hf
      rw [e0, e1, e2, e7, e29] at hf
      clear e0 e1 e2 e7 e29 hg hs h0 h1 h2 h7 h29 HA HN HH HDD
      subst hf
      have HNW := Lib.hid (new_any w.heap.size w2 s1)
      go_wp2_with fail
      refine HNW.out.mono ?_
      rintro e w3 ⟨p, rfl, hp, r3, k3⟩
      have s3 := k3.size
      have k3 := nix_trans k1 k3
      have HP := put_any w.heap.size p (.slice none 0 0) 0 0 ah ((ah : Int) % 21) w3 r3 (by omega) (by omega)
      rw [show wid ((ah : Int) % 21) = ah % 21 by unfold wid; omega, Nat.zero_mul, Nat.zero_add, Nat.zero_add, ← HDN.out, ← HDL.out] at HP
      have HP := Lib.hid HP
      clear k1 HNW
      go_wp2_with fail
      refine HP.out.mono ?_
      rintro e w4 ⟨rfl, v4, r4, k4, g4⟩
      have s4 := k4.size
      have k4 := nix_own k3 k4 (fun k hk => (r3.foot k hk).1) (Nat.le_refl _)
      have HP2 := Lib.hid (HPA.out p v4 _ _ w4 r4 (by omega) (by omega))
      clear HP k3 r3
      go_wp2_with fail
      refine HP2.out.mono ?_
      rintro e w5 ⟨rfl, v5, r5, k5, g5⟩
      have s5 := k5.size
      have k5 := nix_own k4 k5 (fun k hk => (r4.foot k hk).1) (Nat.le_refl _)
      rw [← num_append, ← List.length_append] at r5
      have HR := Lib.hid (HRA.out w5 (by omega))
      clear HP2 k4 r4 HPA HRA
      go_wp2_with fail
      refine HR.out.mono ?_
      rintro e w6 ⟨vl, rfl, sl6, k6⟩
      have s6 := k6.size
      have r6 := r5.apart k6 (disj_nix _)
      have k6 := nix_trans k5 k6
      have HD := digits_any w.heap.size ah ((ah : Int) % 21) w6 (by omega) (by omega)
      rw [show wid ((ah : Int) % 21) = ah % 21 by unfold wid; omega, HDG.out] at HD
      have HD := Lib.hid HD
      have R6 := Lib.hid r6
      have S6 := Lib.hid sl6
      obtain ⟨aol, cl, hvl⟩ : ∃ ao cap, vl = .slice ao L.length cap := by obtain ⟨ao, cap, h, _⟩ := sl6; exact ⟨ao, cap, by rw [h, bls_length]⟩
      subst hvl
      clear HR r6 sl6 r5 k5
      go_wp2_with fail
      refine HD.out.mono ?_
      rintro e w7 ⟨v7, rfl, o7, k7, n7⟩
      have s7 := k7.size
      obtain ⟨ao7, cap7, hv7, hsrc7⟩ := src_of_sl (S6.out.nix k7) (bls_one L)
      rw [bls_length] at hv7 hsrc7
      simp only [Value.slice.injEq, true_and] at hv7
      obtain ⟨rfl, rfl⟩ := hv7
      have r7 := R6.out.apart k7 (disj_nix _)
      have d7 : Disj (Own v7) (Only p v5) := (disj_new (n := w6.heap.size) (fun k hk => (R6.out.foot k hk).2) n7).symm
      have K7 := Lib.hid (nix_trans k6 k7)
      have SR7 := Lib.hid hsrc7
      have O7 := Lib.hid o7
      have R7 := Lib.hid r7
      clear HD k6 k7 hsrc7 o7 r7 R6 S6
      obtain ⟨ao8, cap8, hv8, hcap8, hmax8⟩ := owns_shape O7.out
      subst hv8
      go_wp2_with (at_builtin; refine wpList_app _ rfl (.tmp 56) (.tmp 57) 36 rfl w.heap.size 4 (.bool false) 1 1 Try.underlying36 info_bool rfl (by decide) _ _ _ rfl O7.out _ _ _ _ rfl SR7.out ?_ ?_ ?_ ?_)
      · simp only [maxLen]; omega
      · omega
      · omega
      · intro v9 w9 o9 g9 n9
        have k79 : Kept (Own (.slice ao8 D.length cap8)) w7 w9 := (Kept.refl _ w7).grown g9 (fun k hk => .inl hk)
        have r9 := R7.out.apart k79 d7.symm
        have k9 : Kept Nix w w9 := K7.out.trans k79 (fun _ h => h) (fun j hj e => by have := (O7.out.lt j e).1; omega)
        rw [← bls_append, ← List.length_append] at o9
        obtain ⟨all, hall⟩ : ∃ all, D ++ L = all := ⟨_, rfl⟩
        have hal : all.length ≤ 420 := by rw [← hall, List.length_append]; omega
        rw [hall] at o9 r9
        have hpd := pad_le all.length
        have s9 := k9.size
        have HL := Lib.hid (len_any w.heap.size p v5 _ _ _ w9 r9)
        obtain ⟨B, hpk, hby⟩ := bytes_of_wr r9 (by omega) (by unfold pad at hpd; omega) s9
        have HBY := Lib.hid hby
        have HPK := Lib.hid hpk
        have hBl : B.length < 1099511627776 := by have := hpk.2.1; omega
        have O9 := Lib.hid o9
        obtain ⟨ao10, cap10, hv10, hcap10, hmax10⟩ := owns_shape o9
        subst hv10
        have c1 : (E == E) = true := by simp
        have c2 : ((all.length : Int) == (all.length : Int)) = true := by simp
        clear hpk hby o9 r9 k79 g9 n9 O7 SR7 R7 d7 hall
        go_wp2_with (go_at_call 23; refine HL.out.mono ?_; rintro e w' ⟨rfl, rfl⟩)
        refine HBY.out.mono ?_
        rintro e w10 ⟨v10, rfl, o10, k10, g10⟩
        have o910 := k10.owns O9.out (fun _ _ h => h)
        have s10 := k10.size
        have HBS := Lib.hid (bys_any w.heap.size _ all w10 (sl_of_owns o910) (by omega) (by omega))
        go_wp2_with fail
        refine HBS.out.mono ?_
        rintro e w11 ⟨v11, R, rfl, o11, hpkR, k11, g11⟩
        have hBR : B = R := pk_one HPK.out hpkR
        subst hBR
        have o1011 := k11.owns o10 (fun _ _ h => h)
        have HS := Lib.hid (same_any v10 v11 B B w11 (sl_of_owns o1011) (sl_of_owns o11) hBl)
        have K11 := nix_trans k9 (nix_trans k10 k11)
        clear k9 k10 k11 o910 o10 o11 o1011 hpkR g10 g11 HBY HBS HL O9
        go_wp2_with fail
        refine HS.out.mono ?_
        rintro e w12 ⟨rfl, n12, rfl⟩
        go_wp2
        go_ret
        exact ⟨rfl, K11.drewN n12⟩
    · intro J K' hJ hK'
      have hd := HDD.out
      cases nn with
      | false =>
        go_wp2
        exact hJ _ _ ⟨rfl, rfl, rfl, rfl, rfl, rfl, rfl, rfl⟩
      | true =>
        by_cases h300 : 300 < H
        · have h6 : ¬ H ≤ 65535 := fun h => hd ⟨rfl, h300, h⟩
          have h7 : decide ((H : Int) ≤ 65535) = false := by simp only [decide_eq_false_iff_not]; omega
          have h8 : decide (H ≤ 65535) = false := by simp only [decide_eq_false_iff_not]; omega
          clear hd HDD
          go_wp2
          exact hJ _ _ ⟨rfl, rfl, rfl, rfl, rfl, rfl, rfl, rfl⟩
        · clear hd HDD
          go_wp2
          exact hJ _ _ ⟨rfl, rfl, rfl, rfl, rfl, rfl, rfl, rfl⟩
end Go.Proofs.Ytlhplgeohffjeaa
