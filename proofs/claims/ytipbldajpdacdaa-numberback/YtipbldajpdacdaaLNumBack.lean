/- The walk of the statement NumberBack. -/
import Derived.Test.YtipbldajpdacdaaLNum
namespace Go.Proofs.Ytipbldajpdacdaa
open Go.RowKit Bx Nm

set_option maxHeartbeats 2000000 in
theorem walk_NumberBack (w : World) (n : Int) (_w0 : (Lit.int .i64 n).wf = true) (v : Value) (zs : List Int) (s : Sl w v (zs.map (Value.int .u8))) (hz : ∀ n ∈ zs, (Lit.int .u8 n).wf = true) (c : Int) (w2 : (Lit.int .u8 c).wf = true) :
    Calls Try.prog 4 #[.int .i64 n, v, .int .u8 c] w fun e w' => e = .returned (.bool true) ∧ Kept Nix w w' := by
  obtain ⟨M, sM, hM, hlM⟩ := s.nats hz
  have bc := bounds_u8 w2
  obtain ⟨c, rfl⟩ := Int.eq_ofNat_of_zero_le bc.1
  clear s hz hlM w2
  have HA := Lib.hid (awake_any w)
  obtain ⟨ao, cap, rfl⟩ := sM.shape
  have HSM := Lib.hid sM
  have HM := Lib.hid hM
  clear sM hM
  by_cases hlen : 20 < (M.length : Int)
  · go_enter Try.func4, Try.ntmps4
    go_wp2_with fail
    refine HA.out.mono ?_
    rintro e w1 ⟨rfl, k1⟩
    go_wp2_with fail
    go_ret
    exact ⟨rfl, k1⟩
  · have hlen2 : decide (20 < (M.length : Int)) = false := by simpa using hlen
    have HLEN := Lib.hid hlen
    clear hlen
    by_cases hn : n < 0 ∨ 68719476735 < n
    · have hz0 := (szn_zero n).2 hn
      go_enter Try.func4, Try.ntmps4
      go_wp2_with fail
      refine HA.out.mono ?_
      rintro e w1 ⟨rfl, k1⟩
      have HE := Lib.hid (encode_any 0 n w1 (Nat.zero_le _))
      go_wp2_with fail
      refine HE.out.mono ?_
      rintro e w2 ⟨v2, er, rfl, k2, h2, _⟩
      obtain ⟨rfl, rfl⟩ := h2 hz0
      clear h2 hz0
      go_wp2_with fail
      all_goals
        go_ret
        exact ⟨rfl, nix_trans k1 k2⟩
    · obtain ⟨n, rfl⟩ := Int.eq_ofNat_of_zero_le (show 0 ≤ n by omega)
      have hlt : n < 68719476736 := by omega
      have hel := enc_length n hlt
      have hp := szn_pos n hlt
      have h7 := szn_le n
      have HD1 := Lib.hid (dec_enc n hlt M)
      have HD2 := Lib.hid (fun c hc => dec_cut n hlt c hc)
      have HLT := Lib.hid (enc_lt n hlt)
      have HN := Lib.hid hlt
      have HZ := Lib.hid (nsize_any n)
      rw [← hel] at HD1 HZ hp h7
      have i1 : ¬ (n : Int) < 0 := by omega
      have i2 : ¬ 68719476735 < (n : Int) := by omega
      clear hlt hel hn
      go_enter Try.func4, Try.ntmps4
      go_wp2_with fail
      refine HA.out.mono ?_
      rintro e w1 ⟨rfl, k1⟩
      have HE := encode_ok 0 n w1 HN.out (Nat.zero_le _)
      unfold EncOk at HE
      generalize enc n = E at *
      have HE := Lib.hid HE
      go_wp2_with fail
      refine HE.out.mono ?_
      rintro e w2 ⟨a2, c2, rfl, o2, k2, _, hc2, hc3⟩
      have j1 : decide ((E.length : Int) < 1) = false := by simp; omega
      have j2 : decide ((7 : Int) < (E.length : Int)) = false := by simp; omega
      have hE7 := Lib.hid h7
      have hE1 := Lib.hid hp
      have src2 := src_of_sl (sl_of_owns o2) (u8s_one E)
      obtain ⟨ao2, cap2, es, src2⟩ := src2
      simp only [Value.slice.injEq, u8s_length] at es
      obtain ⟨rfl, _, rfl⟩ := es
      rw [u8s_length] at src2
      have HS2 := Lib.hid src2
      clear src2 h7 hp
      go_wp2_with (at_builtin; refine wpList_app _ rfl (.tmp 55) (.tmp 56) 22 rfl w2.heap.size 5 (.int .u8 0) 1 1 Try.underlying22 info_u8 rfl (by decide) (.slice (some ⟨w2.heap.size, 0, none⟩) 0 0) 0 [] rfl ?_ _ E.length _ (u8s E) rfl ?_ ?_ ?_ ?_ ?_)
      · exact World.ownsRow_made w2 #[] 0 (Nat.le_refl _) (by simp [maxLen]) rfl
      · exact HS2.out.alloc _
      · have := hE7.out
        simp only [maxLen]; omega
      · have := hE7.out
        omega
      · simp
      · intro v3 w3 o3 g3 hv3
        have k3 : Kept Nix w2 w3 := ((Kept.refl _ w2).alloc _).grown g3 (fun k hk => .inr (by simp only [Value.ownBlock, Option.some.injEq] at hk; omega))
        obtain ⟨ao4, cap4, es, src4⟩ := src_of_sl (HSM.out.nix (nix_trans (nix_trans k1 k2) k3)) (u8s_one M)
        simp only [Value.slice.injEq, u8s_length] at es
        obtain ⟨rfl, _, rfl⟩ := es
        rw [u8s_length] at src4
        have HS4 := Lib.hid src4
        clear src4 HS2 g3 hv3
        go_wp2_with (at_builtin; refine wpList_app _ rfl (.tmp 57) (.tmp 58) 22 rfl w2.heap.size 5 (.int .u8 0) 1 1 Try.underlying22 info_u8 rfl (by decide) v3 E.length (u8s E) rfl o3 _ M.length _ (u8s M) rfl HS4.out ?_ ?_ ?_ ?_)
        · have := hE7.out
          have := HLEN.out
          simp only [maxLen]; omega
        · have := hE7.out
          have := HLEN.out
          omega
        · exact k3.size
        · intro v4 w4 o4 g4 _
          have k4 : Kept Nix w2 w4 := k3.grown g4 (fun k hk => .inr (o3.lt k hk).1)
          rw [← u8s_append] at o4
          have hEM : (E ++ M).length < 1099511627776 := by
            have := hE7.out
            have := HLEN.out
            simp; omega
          have D1 := decode_any v4 (E ++ M) w4 (sl_of_owns o4) (fun b hb => by
            rcases List.mem_append.1 hb with h | h
            · exact HLT.out b h
            · exact HM.out b h) hEM
          rw [HD1.out] at D1
          have D1 := Lib.hid D1
          obtain ⟨a4, c4, rfl, _, _⟩ := owns_shape o4
          clear g4 HS4 o3 o4 hEM
          go_wp2_with fail
          refine D1.out.mono ?_
          rintro e w5 ⟨rfl, n5, hw5⟩
          have k5 : Kept Nix w2 w5 := by rw [hw5]; exact k4.drewN n5
          have sl2 := (sl_of_owns o2).nix k5
          have hcl : c % E.length < E.length := Nat.mod_lt _ (by have := hE1.out; omega)
          have hci : (c : Int) % (E.length : Int) = ((c % E.length : Nat) : Int) := (Int.natCast_emod _ _).symm
          have D2 := decode_any _ _ w5 (by rw [← u8s_take]; exact sl2.take (c % E.length) (by omega)) (fun b hb => HLT.out b (List.mem_of_mem_take hb)) (by have := hE7.out; simp; omega)
          rw [HD2.out _ hcl] at D2
          generalize c % E.length = d at *
          have D2 := Lib.hid D2
          clear hw5 D1 k4 k3 sl2 o2
          have hdl : (d : Int) ≤ (c2 : Int) := by omega
          have hc20 : ¬ c2 = 0 := by omega
          have hE0 : ((E.length : Int) == 0) = false := beq_eq_false_iff_ne.2 (by have := hE1.out; omega)
          go_wp2_with fail
          refine D2.out.mono ?_
          rintro e w6 ⟨rfl, n6, hw6⟩
          have k6 : Kept Nix w w6 := by rw [hw6]; exact (nix_trans (nix_trans k1 k2) k5).drewN n6
          clear hw6 D2 k5
          go_wp2_with (go_at_call 15; refine (HZ.out _).mono ?_; rintro e w' ⟨rfl, rfl⟩)
          go_ret
          exact ⟨rfl, k6⟩

end Go.Proofs.Ytipbldajpdacdaa
