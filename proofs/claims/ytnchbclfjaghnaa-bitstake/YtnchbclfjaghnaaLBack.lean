/- The walk of the statement BitsBack. -/
import Derived.Test.YtnchbclfjaghnaaLStay
import Derived.Test.YtnchbclfjaghnaaLFill
namespace Go.Proofs.Ytnchbclfjaghnaa
open Go.RowKit Bx

/-- Numbers and how many bits each has: all of them as one number; how many bits. -/
def allN (l : List (Nat × Nat)) : Nat := l.foldl (fun N x => N * 2 ^ x.2 + x.1 % 2 ^ x.2) 0
def allC (l : List (Nat × Nat)) : Nat := (l.map Prod.snd).sum

theorem allN_snoc (l : List (Nat × Nat)) (n k : Nat) : allN (l ++ [(n, k)]) = allN l * 2 ^ k + n % 2 ^ k := by simp [allN, List.foldl_append]
theorem allC_snoc (l : List (Nat × Nat)) (n k : Nat) : allC (l ++ [(n, k)]) = allC l + k := by simp [allC]

theorem allC_append (l m : List (Nat × Nat)) : allC (l ++ m) = allC l + allC m := by simp [allC]

/-- What stands behind changes nothing of what stands ahead. -/
theorem allN_ahead (m : List (Nat × Nat)) : ∀ l, ∃ R, R < 2 ^ allC m ∧ allN (l ++ m) = allN l * 2 ^ allC m + R := by
  induction m with
  | nil => exact fun l => ⟨0, by simp [allC], by simp [allC]⟩
  | cons x m ih =>
    intro l
    obtain ⟨n, k⟩ := x
    obtain ⟨R, hR, h⟩ := ih (l ++ [(n, k)])
    have hc : allC ((n, k) :: m) = k + allC m := by simp [allC]
    refine ⟨n % 2 ^ k * 2 ^ allC m + R, ?_, ?_⟩
    · rw [hc, Nat.pow_add]
      have h1 : n % 2 ^ k + 1 ≤ 2 ^ k := Nat.mod_lt _ (Nat.two_pow_pos k)
      calc n % 2 ^ k * 2 ^ allC m + R < n % 2 ^ k * 2 ^ allC m + 2 ^ allC m := by omega
        _ = (n % 2 ^ k + 1) * 2 ^ allC m := by rw [Nat.add_mul, Nat.one_mul]
        _ ≤ 2 ^ k * 2 ^ allC m := Nat.mul_le_mul_right _ h1
    · rw [List.append_cons, h, allN_snoc, hc, Nat.pow_add, Nat.add_mul, Nat.mul_assoc, Nat.add_assoc]

theorem allN_lt (l : List (Nat × Nat)) : allN l < 2 ^ allC l := by
  obtain ⟨R, hR, h⟩ := allN_ahead l []
  rw [List.nil_append] at h
  rw [h]
  simpa [allN] using hR

/-- The number at place i, out of all. -/
theorem allN_get (l : List (Nat × Nat)) (i : Nat) (hi : i < l.length) : allN l / 2 ^ (allC l - (allC (l.take i) + l[i].2)) % 2 ^ l[i].2 = l[i].1 % 2 ^ l[i].2 := by
  have e : l = (l.take i ++ [(l[i].1, l[i].2)]) ++ l.drop (i + 1) := by
    have h1 : l.take i ++ [(l[i].1, l[i].2)] = l.take (i + 1) := by rw [List.take_succ_eq_append_getElem hi]
    rw [h1, List.take_append_drop]
  obtain ⟨R, hR, h⟩ := allN_ahead (l.drop (i + 1)) (l.take i ++ [(l[i].1, l[i].2)])
  rw [← e] at h
  have hc : allC l = allC (l.take i) + l[i].2 + allC (l.drop (i + 1)) := by
    have h2 := congrArg allC e
    rw [allC_append, allC_snoc] at h2
    exact h2
  rw [h, hc, Nat.add_sub_cancel_left, Nat.mul_comm, Nat.mul_add_div (Nat.two_pow_pos _), Nat.div_eq_of_lt hR, Nat.add_zero, allN_snoc, Nat.mul_comm, Nat.mul_add_mod, Nat.mod_mod]

/-- The arguments of all puts. -/
def items (zl zw : List Int) : List (Nat × Nat) := (List.range zl.length).map fun i => ((zl.getD i 0).toNat, wid (zw.getD i 0))
theorem items_length (zl zw : List Int) : (items zl zw).length = zl.length := by simp [items]
theorem items_get (zl zw : List Int) (i : Nat) (h : i < (items zl zw).length) : (items zl zw)[i] = ((zl.getD i 0).toNat, wid (zw.getD i 0)) := by simp [items]
theorem items_take (zl zw : List Int) (i : Nat) (h : i < zl.length) : (items zl zw).take (i + 1) = (items zl zw).take i ++ [((zl.getD i 0).toNat, wid (zw.getD i 0))] := by
  rw [List.take_succ_eq_append_getElem (by rw [items_length]; exact h), items_get]

theorem allC_le (l : List (Nat × Nat)) (h : ∀ x ∈ l, x.2 ≤ 64) : allC l ≤ 64 * l.length := by
  induction l with
  | nil => simp [allC]
  | cons x l ih =>
    have h1 := h x (by simp)
    have h2 := ih (fun y hy => h y (by simp [hy]))
    have e : allC (x :: l) = x.2 + allC l := by simp [allC]
    rw [e]; simp only [List.length_cons]; omega

theorem items_le (zl zw : List Int) (i : Nat) : allC ((items zl zw).take i) ≤ 64 * zl.length := by
  have h := allC_le ((items zl zw).take i) (fun x hx => by
    obtain ⟨j, _, rfl⟩ := List.mem_map.1 (List.mem_of_mem_take hx)
    exact wid_le _)
  have h2 : ((items zl zw).take i).length ≤ zl.length := by rw [List.length_take, items_length]; omega
  omega

theorem shl_u64 (K n : Nat) (h : K < 64) : ∃ D : Nat, IntKind.u64.wrap (2 ^ K) = (D : Int) ∧ ¬ (D : Int) = 0 ∧ (n : Int) % (D : Int) = ((n % 2 ^ K : Nat) : Int) := by
  have h1 : 2 ^ K ≤ 2 ^ 63 := Nat.pow_le_pow_right (by decide) (by omega)
  have h2 : 0 < 2 ^ K := Nat.two_pow_pos _
  refine ⟨2 ^ K, ?_, by omega, by rw [Int.natCast_emod]⟩
  rw [show (2 : Int) ^ K = ((2 ^ K : Nat) : Int) by rw [Int.natCast_pow]; rfl, IntKind.wrap_u64]
  omega

/-- A writer's bytes, all its bits taken: what is left is filled. -/
theorem fill_end {B : List Nat} {N C : Nat} (h : Pk B N C (pad C)) : fat B C 0 = 8 * B.length ∧ ffail B C 0 = 0 := by
  have hl := h.2.1
  have hs : short B C 0 (pad C) = false := by simp [short]; omega
  have hv : rval B C 0 (pad C) = 0 := by
    simp only [rval, hs, cond_false]
    rw [show 8 * B.length - (C + pad C) = 0 by omega, Nat.pow_zero, Nat.div_one, h.2.2.1]
    exact Nat.mul_mod_left _ _
  refine ⟨?_, ?_⟩
  · simp only [fat, hv, rat, hs, cond_false]
    exact hl.symm
  · simp [ffail, hv, rfail, show ¬ 8 * B.length < C + pad C by omega]

def BackInv1 (w : World) (vl vw : Value) (zl zw : List Int) (p : Nat) (a : Act) (w' : World) : Prop :=
  a.defers = [] ∧ a.tmps.size = 99 ∧ a.tmps[0]? = some vl ∧ a.tmps[1]? = some vw ∧ a.tmps[5]? = some (.bool true) ∧ a.tmps[6]? = some (.pointer (some ⟨p, 0, none⟩)) ∧
  ∃ i, i ≤ zl.length ∧ a.tmps[7]? = some (.int .i64 ((i : Nat) : Int)) ∧ Kept Nix w w' ∧ ∃ v, Wr w.heap.size w' p v (allN ((items zl zw).take i)) (allC ((items zl zw).take i)) (pad (allC ((items zl zw).take i)))

def BackInv2 (w : World) (vl vw : Value) (zl zw : List Int) (p q : Nat) (v u : Value) (B : List Nat) (a : Act) (w' : World) : Prop :=
  a.defers = [] ∧ a.tmps.size = 99 ∧ a.tmps[0]? = some vl ∧ a.tmps[1]? = some vw ∧ a.tmps[5]? = some (.bool true) ∧ a.tmps[6]? = some (.pointer (some ⟨p, 0, none⟩)) ∧ a.tmps[8]? = some (.pointer (some ⟨q, 0, none⟩)) ∧
  ∃ i, i ≤ zl.length ∧ a.tmps[9]? = some (.int .i64 ((i : Nat) : Int)) ∧ Kept Nix w w' ∧ Wr w.heap.size w' p v (allN (items zl zw)) (allC (items zl zw)) (pad (allC (items zl zw))) ∧ Rd w.heap.size w' q u B (allC ((items zl zw).take i)) 0

set_option maxRecDepth 100000 in
set_option maxHeartbeats 1000000 in
theorem walk_BitsBack (w : World) (vl : Value) (zl : List Int) (sl : Sl w vl (zl.map (Value.int .u64))) (hzl : ∀ n ∈ zl, (Lit.int .u64 n).wf = true) (vw : Value) (zw : List Int) (sw : Sl w vw (zw.map (Value.int .i64))) (_hw : ∀ n ∈ zw, (Lit.int .i64 n).wf = true) :
    Calls Try.prog 5 #[vl, vw] w fun e w' => e = .returned (.bool true) ∧ Kept Nix w w' := by
  have HA := Lib.hid (awake_any w)
  obtain ⟨al, cl, hvl, hcl, hml, hpl⟩ := sl.ints
  obtain ⟨aw, cw, hvw, hcw, hmw, hpw⟩ := sw.ints
  clear hpl hpw
  by_cases hl : zl.length ≤ 60 ∧ zl.length ≤ zw.length
  · obtain ⟨hl1, hl2⟩ := hl
    have f1 : decide ((60 : Int) < (zl.length : Int)) = false := by simp; omega
    have f2 : decide (zw.length < zl.length) = false := by simp; omega
    have f3 : ¬ 60 < zl.length := by omega
    have f4 : ¬ zw.length < zl.length := by omega
    have HSL := Lib.hid sl
    have HSW := Lib.hid sw
    have HZL := Lib.hid hzl
    subst hvl
    subst hvw
    clear sl sw hzl
    go_enter Try.func5, Try.ntmps5
    go_wp2_with fail
    refine HA.out.mono ?_
    rintro e w1 ⟨rfl, k1⟩
    have s1 := k1.size
    have HN := Lib.hid (new_any w.heap.size w1 s1)
    go_wp2_with fail
    refine HN.out.mono ?_
    rintro e w2 ⟨p, rfl, hp, r1, k2⟩
    have k2 := nix_trans k1 k2
    have R1 := Lib.hid r1
    clear HA HN k1 r1
    go_wp2_with fail
    refine wp_loop (BackInv1 w (.slice al zl.length cl) (.slice aw zw.length cw) zl zw p) (fun a _ => zl.length - (intOf (a.tmps.getD 7 undef)).toNat) ?_ ?_
    · exact ⟨rfl, rfl, rfl, rfl, rfl, rfl, 0, Nat.zero_le _, rfl, k2, _, by simpa [allN, allC, pad] using R1.out⟩
    · rintro ⟨tm, df⟩ w3 ⟨rfl, hs, h0, h1, h5, h6, i, hi, h7, k3, v3, r3⟩
      simp only at hs h0 h1 h5 h6 h7
      obtain ⟨f, hf, hg⟩ := fr_open hs
      have e0 := hg _ _ h0
      have e1 := hg _ _ h1
      have e5 := hg _ _ h5
      have e6 := hg _ _ h6
      have e7 := hg _ _ h7
      simp only [List.range, List.range.loop, List.map] at hf
      rw [e0, e1, e5, e6, e7] at hf
      clear e0 e1 e5 e6 e7 hg hs h0 h1 h5 h6 h7
      subst hf
      clear R1 k2
      have s3 := k3.size
      by_cases hlt : i < zl.length
      · obtain ⟨aw', cw', hv', hcw', hmw', hpw'⟩ := (HSW.out.nix k3).ints
        simp only [Value.slice.injEq, true_and] at hv'
        obtain ⟨rfl, rfl⟩ := hv'
        obtain ⟨bw, ow, rfl, _, hcw2⟩ := hpw' (by omega)
        obtain ⟨al', cl', hv', hcl', hml', hpl'⟩ := (HSL.out.nix k3).ints
        simp only [Value.slice.injEq, true_and] at hv'
        obtain ⟨rfl, rfl⟩ := hv'
        obtain ⟨bl, ol, rfl, _, hcl2⟩ := hpl' (by omega)
        have hd1 := hcw2 i (by omega)
        have hd2 := hcl2 i hlt
        clear hcw2 hcl2 hpw' hpl'
        have hi1 : (i : Int) < (zl.length : Int) := by omega
        have hi2 : (i : Int) < (zw.length : Int) := by omega
        have htk := items_take zl zw i hlt
        have hle := items_le zl zw i
        have hx := bounds_u64 (HZL.out _ (List.getElem_mem hlt))
        rw [show zl[i] = zl.getD i 0 by simp [hlt]] at hx
        generalize zw.getD i 0 = wd at hd1 htk
        obtain ⟨n, hn⟩ := Int.eq_ofNat_of_zero_le hx.1
        rw [hn] at hd2 htk
        rw [Int.toNat_natCast] at htk
        have HTK := Lib.hid htk
        clear htk hx hn
        have HP := Lib.hid (put_any w.heap.size p v3 _ _ n wd w3.drew r3 (by omega) s3)
        go_wp2_with fail
        go_still_tail 9, (by kernel_rfl)
        change wpList _ _ _ _ _ w3.drew
        go_wp2_with fail
        refine HP.out.mono ?_
        rintro e w4 ⟨rfl, v4, r4, k4, g4⟩
        have k4 := nix_put k3.drew k4 (fun j hj => (r3.foot j hj).1)
        go_wp2_with fail
        refine ⟨⟨rfl, rfl, rfl, rfl, rfl, rfl, i + 1, hlt, rfl, k4, v4, ?_⟩, ?_⟩
        · rw [HTK.out, allN_snoc, allC_snoc]
          exact r4
        · simp [intOf]
          omega
      · have hi0 : i = zl.length := by omega
        have hle := items_le zl zw i
        rw [hi0, List.take_of_length_le (by rw [items_length]; exact Nat.le_refl _)] at r3 hle
        have hpd := pad_le (allC (items zl zw))
        clear hi0 hi
        have hft : decide (i < zl.length) = false := by simp; omega
        obtain ⟨B, hpk, hby⟩ := bytes_of_wr r3 (by omega) (by omega) s3
        have H5 := Lib.hid hby
        have hBl : B.length < 1099511627776 := by have := hpk.2.1; omega
        have HB8 := Lib.hid hpk.2.1
        have HPK := Lib.hid hpk
        clear hby hpk
        go_wp2_with fail
        refine H5.out.mono ?_
        rintro e w5 ⟨v5, rfl, o5, k5, g5⟩
        have s5 := k5.size
        have r5 := r3.apart k5 (disj_nix _)
        have k5 := nix_trans k3 k5
        have H6 := Lib.hid (open_any w.heap.size v5 B w5 (sl_of_owns o5) HPK.out.1 hBl (by omega))
        go_wp2_with fail
        refine H6.out.mono ?_
        rintro e w6 ⟨q, u, rfl, hq, t6, k6, g6⟩
        have dq : Disj (Only p v3) (One q) := disj_new (fun k hk => (r5.foot k hk).2) (fun k hk => by rw [hk]; exact hq)
        have r6 := r5.apart k6 (disj_nix _)
        have k6 := nix_trans k5 k6
        have R6 := Lib.hid r6
        have T6 := Lib.hid t6
        clear H5 H6 k3 k5 r3 r5 r6 t6 o5 g5 g6 hlt
        go_wp2_with fail
        refine wp_loop (BackInv2 w (.slice al zl.length cl) (.slice aw zw.length cw) zl zw p q v3 u B) (fun a _ => zl.length - (intOf (a.tmps.getD 9 undef)).toNat) ?_ ?_
        · exact ⟨rfl, rfl, rfl, rfl, rfl, rfl, rfl, 0, Nat.zero_le _, rfl, k6, R6.out, T6.out⟩
        · rintro ⟨tm, df⟩ w7 ⟨rfl, hs, h0, h1, h5, h6, h8, j, hj, h9, k7, r7, t7⟩
          simp only at hs h0 h1 h5 h6 h8 h9
          obtain ⟨f2, hf, hg⟩ := fr_open hs
          have e0 := hg _ _ h0
          have e1 := hg _ _ h1
          have e5 := hg _ _ h5
          have e6 := hg _ _ h6
          have e8 := hg _ _ h8
          have e9 := hg _ _ h9
          simp only [List.range, List.range.loop, List.map] at hf
          rw [e0, e1, e5, e6, e8, e9] at hf
          clear e0 e1 e5 e6 e8 e9 hg hs h0 h1 h5 h6 h8 h9
          subst hf
          clear R6 T6 k6 hft
          have s7 := k7.size
          have hl8 : 8 * B.length < 1099511627776 := by have := HB8.out; omega
          by_cases hlt : j < zl.length
          · obtain ⟨aw', cw', hv', hcw', hmw', hpw'⟩ := (HSW.out.nix k7).ints
            simp only [Value.slice.injEq, true_and] at hv'
            obtain ⟨rfl, rfl⟩ := hv'
            obtain ⟨bw, ow, rfl, _, hcw2⟩ := hpw' (by omega)
            obtain ⟨al', cl', hv', hcl', hml', hpl'⟩ := (HSL.out.nix k7).ints
            simp only [Value.slice.injEq, true_and] at hv'
            obtain ⟨rfl, rfl⟩ := hv'
            obtain ⟨bl, ol, rfl, _, hcl2⟩ := hpl' (by omega)
            have hd1 := hcw2 j (by omega)
            have hd2 := hcl2 j hlt
            clear hcw2 hcl2 hpw' hpl'
            have hi1 : (j : Int) < (zl.length : Int) := by omega
            have hi2 : (j : Int) < (zw.length : Int) := by omega
            have htk := items_take zl zw j hlt
            have hle2 := items_le zl zw j
            have hle3 := items_le zl zw (j + 1)
            have hget := allN_get (items zl zw) j (by rw [items_length]; exact hlt)
            rw [items_get] at hget
            have hx := bounds_u64 (HZL.out _ (List.getElem_mem hlt))
            rw [show zl[j] = zl.getD j 0 by simp [hlt]] at hx
            generalize zw.getD j 0 = wd at hd1 htk hget
            obtain ⟨n, hn⟩ := Int.eq_ofNat_of_zero_le hx.1
            rw [hn] at hd2 htk hget hx
            simp only [Int.toNat_natCast] at htk hget
            have hadd : allC ((items zl zw).take (j + 1)) = allC ((items zl zw).take j) + wid wd := by rw [htk, allC_snoc]
            have htot : allC ((items zl zw).take (j + 1)) ≤ allC (items zl zw) := by
              have h := allC_append ((items zl zw).take (j + 1)) ((items zl zw).drop (j + 1))
              rw [List.take_append_drop] at h
              omega
            have hn64 : n < 18446744073709551616 := by omega
            have hT := fun wx t => take_any w.heap.size q u B (allC ((items zl zw).take j)) 0 wd wx t hl8
            obtain ⟨x1, x2, x3⟩ := rval_pk (at_ := allC ((items zl zw).take j)) (k := wid wd) HPK.out (by omega)
            rw [x1, x2, x3, hget, ← hadd] at hT
            have HT := Lib.hid hT
            have T7 := Lib.hid t7
            have R7 := Lib.hid r7
            have hwl := wid_le wd
            clear hT x1 x2 x3 hget htk hadd htot hx hn t7 r7
            go_upto_region 17 with fail
            refine wp_cut (fun a' w8 => w8 = w7 ∧ a'.defers = [] ∧ a'.tmps.size = 99 ∧ a'.tmps[0]? = some (.slice (some ⟨bl, ol, none⟩) zl.length cl) ∧ a'.tmps[1]? = some (.slice (some ⟨bw, ow, none⟩) zw.length cw) ∧ a'.tmps[5]? = some (.bool true) ∧ a'.tmps[6]? = some (.pointer (some ⟨p, 0, none⟩)) ∧ a'.tmps[8]? = some (.pointer (some ⟨q, 0, none⟩)) ∧ a'.tmps[9]? = some (.int .i64 ((j : Nat) : Int)) ∧ a'.tmps[10]? = some (.int .i64 ((wid wd : Nat) : Int))) ?_ ?_
            · rintro ⟨tm, df⟩ w8 ⟨rfl, rfl, hs, h0, h1, h5, h6, h8, h9, h10⟩
              simp only at hs h0 h1 h5 h6 h8 h9 h10
              obtain ⟨f3, hf, hg⟩ := fr_open hs
              have e0 := hg _ _ h0
              have e1 := hg _ _ h1
              have e5 := hg _ _ h5
              have e6 := hg _ _ h6
              have e8 := hg _ _ h8
              have e9 := hg _ _ h9
              have e10 := hg _ _ h10
              simp only [List.range, List.range.loop, List.map] at hf
              rw [e0, e1, e5, e6, e8, e9, e10] at hf
              clear e0 e1 e5 e6 e8 e9 e10 hg hs h0 h1 h5 h6 h8 h9 h10
              subst hf
              generalize wid wd = K at *
              by_cases hK : K < 64
              · obtain ⟨D, g1, g2, g3⟩ := shl_u64 K n hK
                obtain ⟨m, hm⟩ : ∃ m, n % 2 ^ K = m := ⟨_, rfl⟩
                have hmn : m < 18446744073709551616 := by rw [← hm]; exact Nat.lt_of_le_of_lt (Nat.mod_le _ _) hn64
                rw [hm] at HT g3
                have g4 : IntKind.u64.wrap (m : Int) = (m : Int) := by rw [IntKind.wrap_u64]; omega
                have g5 : ((m : Int) != (m : Int)) = false := by simp
                clear hm hmn
                go_wp2_with fail
                go_quiet (fail)
                go_wp2_with fail
                refine (HT.out (w8.drewN nq) T7.out).mono ?_
                rintro e w9 ⟨rfl, t9, k9⟩
                have r9 := (show Wr w.heap.size (w8.drewN nq) p v3 (allN (items zl zw)) (allC (items zl zw)) (pad (allC (items zl zw))) from R7.out).apart k9 dq
                have k9 := nix_put (k7.drewN nq) k9 (fun j hj => by rw [hj]; omega)
                go_wp2_with fail
                refine ⟨⟨rfl, rfl, rfl, rfl, rfl, rfl, rfl, j + 1, hlt, rfl, k9, r9, t9⟩, ?_⟩
                simp [intOf]
                omega
              · have hK64 : K = 64 := by omega
                subst hK64
                have hm : n % 2 ^ 64 = n := Nat.mod_eq_of_lt (by omega)
                rw [hm] at HT
                have g5 : ((n : Int) != (n : Int)) = false := by simp
                clear hm
                go_wp2_with fail
                refine (HT.out w8 T7.out).mono ?_
                rintro e w9 ⟨rfl, t9, k9⟩
                have r9 := R7.out.apart k9 dq
                have k9 := nix_put k7 k9 (fun j hj => by rw [hj]; omega)
                go_wp2_with fail
                refine ⟨⟨rfl, rfl, rfl, rfl, rfl, rfl, rfl, j + 1, hlt, rfl, k9, r9, t9⟩, ?_⟩
                simp [intOf]
                omega
            · intro J K' hJ hK'
              have hwv : ((wid wd : Nat) : Int) = max 0 (min wd 64) := by unfold wid; omega
              have HWV := Lib.hid hwv
              clear hwv
              go_wp2
              all_goals
                refine hJ _ _ ⟨rfl, rfl, rfl, rfl, rfl, rfl, rfl, rfl, rfl, ?_⟩
                rw [HWV.out]
                refine congrArg (fun z => some (Value.int .i64 z)) ?_
                omega
          · have hj0 : j = zl.length := by omega
            rw [hj0, List.take_of_length_le (by rw [items_length]; exact Nat.le_refl _)] at t7
            have hjt : decide (j < zl.length) = false := by simp; omega
            clear hj0 hlt
            generalize allC (items zl zw) = C at *
            generalize allN (items zl zw) = N at *
            have HAt := Lib.hid (at_any w.heap.size q u B C 0 w7 t7)
            have HLen := Lib.hid (len_any w.heap.size p v3 N C (pad C) w7 r7)
            have HLeft := Lib.hid (left_any w.heap.size q u B C 0 w7 t7 hl8)
            obtain ⟨e1, e2⟩ := fill_end HPK.out
            have HF := fun wx t => rfill_any w.heap.size q u B C 0 wx t hl8
            rw [e1, e2] at HF
            have HEnd := fun wx t => end_any w.heap.size q u B (8 * B.length) 0 wx t hl8
            rw [show rend B (8 * B.length) 0 = 0 by simp [rend]] at HEnd
            have HF := Lib.hid HF
            have HEnd := Lib.hid HEnd
            have g1 : ((C : Int) != (C : Int)) = false := by simp
            have g2 : decide ((7 : Int) < ((8 * B.length - C : Nat) : Int)) = false := by have := HB8.out; simp; omega
            have g3 : ¬ 7 < 8 * B.length - C := by have := HB8.out; omega
            have T7 := Lib.hid t7
            clear t7 r7 e1 e2
            go_wp2_with fail
            refine HAt.out.mono ?_
            rintro e w' ⟨rfl, rfl⟩
            go_wp2_with fail
            refine HLen.out.mono ?_
            rintro e w' ⟨rfl, rfl⟩
            go_wp2_with fail
            refine HLeft.out.mono ?_
            rintro e w8 ⟨rfl, n8, rfl⟩
            go_wp2_with fail
            refine (HF.out (w7.drewN n8) T7.out).mono ?_
            rintro e w9 ⟨rfl, t9, k9⟩
            have k9 := nix_put (k7.drewN n8) k9 (fun j hj => by rw [hj]; omega)
            go_wp2_with fail
            refine (HEnd.out w9 t9).mono ?_
            rintro e w10 ⟨rfl, n10, rfl⟩
            go_wp2_with fail
            go_ret
            exact ⟨rfl, k9.drewN n10⟩
  · subst hvl
    subst hvw
    clear sl sw
    by_cases hl1 : 60 < zl.length
    · have f1 : decide ((60 : Int) < (zl.length : Int)) = true := by simp; omega
      clear hl
      go_enter Try.func5, Try.ntmps5
      go_wp2_with fail
      refine HA.out.mono ?_
      rintro e w1 ⟨rfl, k1⟩
      go_wp2_with fail
      go_ret
      exact ⟨rfl, k1⟩
    · have f1 : decide ((60 : Int) < (zl.length : Int)) = false := by simp; omega
      have f2 : decide (zw.length < zl.length) = true := by simp; omega
      have f4 : zw.length < zl.length := by omega
      clear hl
      go_enter Try.func5, Try.ntmps5
      go_wp2_with fail
      refine HA.out.mono ?_
      rintro e w1 ⟨rfl, k1⟩
      go_wp2_with fail
      go_ret
      exact ⟨rfl, k1⟩
end Go.Proofs.Ytnchbclfjaghnaa
