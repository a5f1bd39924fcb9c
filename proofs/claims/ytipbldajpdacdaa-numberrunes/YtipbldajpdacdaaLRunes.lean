/- The walk of the statement NumberRunes. -/
import Derived.Test.YtipbldajpdacdaaNumUtf
namespace Go.Proofs.Ytipbldajpdacdaa
open Go.RowKit Bx Nm

theorem Kept.iterAt {a w : World} (h : Kept Nix a w) {k : Nat} (hk : a.heap.size ≤ k) (s : ByteArray) (pos : Nat) : Kept Nix a (w.iterAt k s pos) :=
  h.trans (S' := fun j => j = k) ⟨rfl, rfl, rfl, by rw [Lib.iterAt_size]; exact Nat.le_refl _, fun i _ hi => Lib.iterAt_other w k i s pos hi⟩ (fun _ h => h) (fun j hj e => by omega)

def RunesInv (t : ByteArray) (w : World) (a : Act) (w' : World) : Prop :=
  a.defers = [] ∧ a.tmps.size = 99 ∧ a.tmps[0]? = some (.string t) ∧ a.tmps[3]? = some (.bool true) ∧ ∃ k pos, w.heap.size ≤ k ∧ pos ≤ t.size ∧ a.tmps[4]? = some (.int .i64 ((pos : Nat) : Int)) ∧
    a.tmps[18]? = some (.pointer (some ⟨k, 0, none⟩)) ∧ w'.heap[k]? = some (.stringIter t pos) ∧ Kept Nix w w'

set_option maxHeartbeats 2000000 in
theorem walk_NumberRunes (w : World) (t : ByteArray) (_ws : t.size ≤ maxLen) : Calls Try.prog 6 #[.string t] w fun e w' => e = .returned (.bool true) ∧ Kept Nix w w' := by
  have HA := Lib.hid (awake_any w)
  by_cases hlen : 50 < (t.size : Int)
  · go_enter Try.func6, Try.ntmps6
    go_wp2_with fail
    refine HA.out.mono ?_
    rintro e w1 ⟨rfl, k1⟩
    go_wp2_with fail
    go_ret
    exact ⟨rfl, k1⟩
  · have hlen2 : decide (50 < (t.size : Int)) = false := by simpa using hlen
    have HLEN := Lib.hid hlen
    clear hlen
    go_enter Try.func6, Try.ntmps6
    go_wp2_with fail
    refine HA.out.mono ?_
    rintro e w1 ⟨rfl, k1⟩
    go_wp2_with fail
    refine wp_loop (RunesInv t w) (fun a _ => t.size - (intOf (a.tmps.getD 4 undef)).toNat) ?_ ?_
    · exact ⟨rfl, rfl, rfl, rfl, w1.heap.size, 0, k1.size, Nat.zero_le _, rfl, rfl, World.iter_heap w1 t 0, k1.alloc _⟩
    · rintro ⟨tm, df⟩ w2 ⟨rfl, hs, h0, h3, k, pos, hk, hpos, h4, h18, hit, k2⟩
      simp only at hs h0 h3 h4 h18
      obtain ⟨f, hf, hg⟩ := fr_open hs
      have e0 := hg _ _ h0
      have e3 := hg _ _ h3
      have e4 := hg _ _ h4
      have e18 := hg _ _ h18
      simp only [List.range, List.range.loop, List.map] at hf
      rw [e0, e3, e4, e18] at hf
      clear e0 e3 e4 e18 hg hs h0 h3 h4 h18
      subst hf
      by_cases hp : pos < t.size
      · have hnx := fun ty => Lib.run_next_any_at (P := Try.prog) w2 k t pos ty hit hp
        have hit3 := Lib.iterAt_heap w2 k t pos (pos + (Utf8.decode t pos).2) hit
        have k3 := k2.iterAt hk t (pos + (Utf8.decode t pos).2)
        have hrq := decode_rune t pos
        have HDP := Lib.hid (fun R => decode_pre t pos (Utf8.decode t pos).1 R hrq)
        generalize w2.iterAt k t (pos + (Utf8.decode t pos).2) = w3 at *
        generalize hc : (Utf8.decode t pos).1 = c at *
        generalize hwd : (Utf8.decode t pos).2 = wd at *
        have HWD := Lib.hid hwd
        have hcr := (runeq_iff c).1 hrq
        have hc1 : (c : Int) ≤ 1114111 := by omega
        have hclt : c < 68719476736 := by omega
        have HE := encode_ok 0 c w3 hclt (Nat.zero_le _)
        unfold EncOk at HE
        have HET := Lib.hid (encode_txt c hrq)
        have hel := enc_length c hclt
        have hes := szn_pos c hclt
        have he7 := szn_le c
        rw [← hel] at hes he7
        have HDE := Lib.hid (dec_enc c hclt)
        rw [← hel] at HDE
        have HELT := Lib.hid (enc_lt c hclt)
        generalize enc c = E at *
        have HE := Lib.hid HE
        have HRQ := Lib.hid hrq
        have HP := Lib.hid hp
        have HEL := Lib.hid hes
        have HE7 := Lib.hid he7
        have HCL := Lib.hid hclt
        have hp50 : (pos : Int) < 50 := by have := HLEN.out; omega
        clear hc hwd hcr hclt hel hes he7 hrq hp hit k2
        go_wp2_with fail
        refine HE.out.mono ?_
        rintro e w4 ⟨a4, c4, rfl, o4, k4, _, _, _⟩
        have hE0 : ((E.length : Int) == 0) = false := beq_eq_false_iff_ne.2 (by have := HEL.out; omega)
        go_wp2_with fail
        have hE7 : (E.length : Int) ≤ 7 := by have := HE7.out; omega
        by_cases hfit : pos + E.length ≤ t.size
        · have hf1 : ¬ (t.size : Int) < (pos : Int) + (E.length : Int) := by omega
          have hcv := fun n => conv_txt ((sl_of_owns o4).nix ((Kept.refl Nix w4).drewN n))
          have hcv0 := conv_txt (sl_of_owns o4)
          by_cases heq : (t.extract pos (pos + E.length)).toList = (txt E).toList
          · have hq : ((t.extract pos (pos + E.length)).toList == (txt E).toList) = true := by simpa using heq
            have hbe : ((bl t).drop pos).take E.length = E := by
              have h1 := bl_extract t pos (pos + E.length)
              rw [← bl_toList, heq, bl_toList, txt_bl E HELT.out, Nat.add_sub_cancel_left] at h1
              exact h1.symm
            have hsplit : (bl t).drop pos = E ++ ((bl t).drop pos).drop E.length := by
              conv => lhs; rw [← List.take_append_drop E.length ((bl t).drop pos), hbe]
            have hwe : wd = E.length := by
              have := HWD.out
              rw [HDP.out _ hsplit] at this
              exact this.symm
            subst hwe
            have hbx : bl (t.extract pos t.size) = E ++ ((bl t).drop pos).drop E.length := by
              rw [bl_extract, ← hsplit, List.take_of_length_le (by rw [List.length_drop, bl_length]; exact Nat.le_refl _)]
            generalize ((bl t).drop pos).drop E.length = R at *
            have HBX := Lib.hid hbx
            have HFIT := Lib.hid hfit
            clear heq hbe hsplit HDP hbx hfit
            go_quiet (fail)
            have k5 : Kept Nix w4 (w4.drewN nq) := (Kept.refl Nix w4).drewN nq
            generalize w4.drewN nq = w5 at *
            obtain ⟨a6, c6, w6, hr6, sl6, k6⟩ := bytes_of w5 (t.extract pos t.size) (by rw [ByteArray.size_extract]; omega)
            have hsz6 : (t.extract pos t.size).size ≤ 50 := by have := HLEN.out; rw [ByteArray.size_extract]; omega
            rw [HBX.out] at sl6
            have D := decode_any _ _ w6 sl6 (fun b hb => by rw [← HBX.out] at hb; exact bl_lt _ b hb) (by rw [← HBX.out, bl_length]; omega)
            rw [HDE.out] at D
            have D := Lib.hid D
            clear sl6 hcv hcv0
            generalize (t.extract pos t.size).size = L at *
            go_wp2_with fail
            refine D.out.mono ?_
            rintro e w7 ⟨rfl, n7, hw7⟩
            have k7 : Kept Nix w6 w7 := by rw [hw7]; exact (Kept.refl Nix w6).drewN n7
            have k47 : Kept Nix w4 w7 := nix_trans (nix_trans k5 k6) k7
            have hcv := conv_txt ((sl_of_owns o4).nix k47)
            have het := HET.out
            have hit7 := (nix_trans k4 k47).heap hit3 (fun h => h)
            clear hw7 D hr6 k5 k6 k7
            go_wp2_with fail
            refine ⟨⟨rfl, rfl, rfl, rfl, k, pos + E.length, hk, HFIT.out, rfl, rfl, hit7, nix_trans k3 (nix_trans k4 k47)⟩, ?_⟩
            have := HEL.out
            have := HP.out
            simp [intOf]; omega
          · have hq : ((t.extract pos (pos + E.length)).toList == (txt E).toList) = false := by simpa using heq
            clear heq
            go_quiet (fail)
            go_wp2_with fail
            go_ret
            exact ⟨rfl, (nix_trans k3 k4).drewN _⟩
        · have hf1 : (t.size : Int) < (pos : Int) + (E.length : Int) := by omega
          go_quiet (fail)
          go_wp2_with fail
          go_ret
          exact ⟨rfl, (nix_trans k3 k4).drewN _⟩
      · have hnx := fun ty => Lib.run_next_end_at (P := Try.prog) w2 k t pos ty hit hp
        have hpe : pos = t.size := by omega
        clear hp
        subst hpe
        go_wp2_with fail
        go_ret
        exact ⟨rfl, k2⟩

end Go.Proofs.Ytipbldajpdacdaa
