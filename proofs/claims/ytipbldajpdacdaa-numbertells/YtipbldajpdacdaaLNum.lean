/- The walks of the statements NumberAgain, NumberOrder. -/
import Derived.Test.YtipbldajpdacdaaAwake03
import Derived.Test.YtipbldajpdacdaaArgs
namespace Go.Proofs.Ytipbldajpdacdaa
open Go.RowKit Bx Nm

theorem u8s_take (B : List Nat) (k : Nat) : (u8s B).take k = u8s (B.take k) := by simp [u8s, List.map_take]
theorem u8s_drop (B : List Nat) (k : Nat) : (u8s B).drop k = u8s (B.drop k) := by simp [u8s, List.map_drop]

theorem Sl.cap {w : World} {ao : Option Addr} {len cap : Nat} {xs : List Value} (h : Sl w (.slice ao len cap) xs) : len ≤ cap ∧ cap ≤ maxLen := by
  obtain ⟨ao', c, e, hc, hm, _⟩ := h
  simp only [Value.slice.injEq] at e
  obtain ⟨rfl, rfl, rfl⟩ := e
  exact ⟨hc, hm⟩

theorem Sl.take {w : World} {ao : Option Addr} {len cap : Nat} {xs : List Value} (h : Sl w (.slice ao len cap) xs) (k : Nat) (hk : k ≤ len) : Sl w (.slice ao k cap) (xs.take k) := by
  obtain ⟨ao', c, e, hc, hm, hno, hp⟩ := h
  simp only [Value.slice.injEq] at e
  obtain ⟨rfl, rfl, rfl⟩ := e
  have hl : (xs.take k).length = k := by simp; omega
  refine ⟨ao, cap, by rw [hl], by omega, hm, hno, fun h0 => ?_⟩
  obtain ⟨b, off, e, hb, hh⟩ := hp (by omega)
  refine ⟨b, off, e, hb, fun j u hu => ?_⟩
  have hj := (List.getElem?_eq_some_iff.1 hu).1
  rw [hl] at hj
  rw [List.getElem?_take, if_pos hj] at hu
  exact hh j u hu

set_option maxHeartbeats 1000000 in
theorem walk_NumberAgain (w : World) (v : Value) (zs : List Int) (s : Sl w v (zs.map (Value.int .u8))) (hz : ∀ n ∈ zs, (Lit.int .u8 n).wf = true) :
    Calls Try.prog 5 #[v] w fun e w' => e = .returned (.bool true) ∧ Kept Nix w w' := by
  obtain ⟨B, sB, hB, hlB⟩ := s.nats hz
  clear s hz hlB
  have HA := Lib.hid (awake_any w)
  obtain ⟨ao, cap, rfl⟩ := sB.shape
  have HSB := Lib.hid sB
  have HB := Lib.hid hB
  clear sB hB
  by_cases hlen : 20 < (B.length : Int)
  · go_enter Try.func5, Try.ntmps5
    go_wp2_with fail
    refine HA.out.mono ?_
    rintro e w1 ⟨rfl, k1⟩
    go_wp2_with fail
    go_ret
    exact ⟨rfl, k1⟩
  · have hlen2 : decide (20 < (B.length : Int)) = false := by simpa using hlen
    have HLEN := Lib.hid hlen
    clear hlen
    go_enter Try.func5, Try.ntmps5
    go_wp2_with fail
    refine HA.out.mono ?_
    rintro e w1 ⟨rfl, k1⟩
    have HD := Lib.hid (decode_any _ B w1 (HSB.out.nix k1) HB.out (by have := HLEN.out; omega))
    go_wp2_with fail
    refine HD.out.mono ?_
    rintro e w2 ⟨rfl, n2, hw2⟩
    have k2 : Kept Nix w w2 := by rw [hw2]; exact k1.drewN n2
    clear hw2 HD
    by_cases he : (dec B).2.2 = 0
    · obtain ⟨h1, h2, h3, h4, h5⟩ := dec_inv B HB.out (dec B).1 (dec B).2.1 (by rw [← he])
      have HE := encode_ok 0 (dec B).1 w2 h3 (Nat.zero_le _)
      unfold EncOk at HE
      rw [h5] at HE
      rw [he]
      generalize (dec B).1 = n at *
      generalize (dec B).2.1 = k at *
      have hll : (B.take k).length = k := by simp; omega
      rw [hll] at HE
      have HE := Lib.hid HE
      have hk1 : ¬ (k : Int) < 1 := by omega
      have hk2 : decide ((B.length : Int) < (k : Int)) = false := by simp; omega
      have hk3 : (k : Int) ≤ (B.length : Int) := by omega
      have HK := Lib.hid h2
      have HLL := Lib.hid hll
      obtain ⟨b0, off0, rfl⟩ := HSB.out.where (by omega)
      obtain ⟨hcp, hmx⟩ := HSB.out.cap
      have hkc : (k : Int) ≤ (cap : Int) := by omega
      have hcz : ¬ cap = 0 := by omega
      clear he h1 h2 h3 h4 h5 hll hcp
      go_wp2_with fail
      refine HE.out.mono ?_
      rintro e w3 ⟨a3, c3, rfl, o3, k3, _, _, _⟩
      have S3 := Lib.hid (same_any _ _ _ _ w3 (sl_of_owns o3) (by rw [← u8s_take]; exact (HSB.out.nix (nix_trans k2 k3)).take k HK.out) (by rw [HLL.out]; have := HLEN.out; have := HK.out; omega))
      simp only [decide_true] at S3
      go_wp2_with fail
      refine S3.out.mono ?_
      rintro e w4 ⟨rfl, n4, rfl⟩
      go_wp2_with fail
      go_ret
      exact ⟨rfl, (nix_trans k2 k3).drewN n4⟩
    · obtain ⟨h1, h2⟩ := dec_bad B he
      rw [h1, h2]
      have he2 : ((((dec B).2.2 : Nat) : Int) != 0) = true := by simp; omega
      generalize (dec B).2.2 = x at *
      go_wp2_with fail
      go_ret
      exact ⟨rfl, k2⟩

end Go.Proofs.Ytipbldajpdacdaa
