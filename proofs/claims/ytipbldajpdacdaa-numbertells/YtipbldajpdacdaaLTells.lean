/- The walk of the statement NumberTells. -/
import Derived.Test.YtipbldajpdacdaaNumRefE
import Derived.Test.YtipbldajpdacdaaNumRefD
namespace Go.Proofs.Ytipbldajpdacdaa
open Go.RowKit Bx Nm

/-- What Encode answers, of whatever number. -/
def encL (n : Int) : List Nat := if szn n = 0 then [] else enc n.toNat
def encE (n : Int) : Int := if szn n = 0 then 6 else 0

def EncUni (w : World) (n : Int) (e : Ending) (w' : World) : Prop :=
  ∃ ao cap, e = .returned (.tuple #[.slice ao (encL n).length cap, .int .i64 (encE n)]) ∧ Sl w' (.slice ao (encL n).length cap) (u8s (encL n)) ∧ Kept Nix w w'

theorem encUni_of {base : Nat} {w : World} {n : Int} {e : Ending} {w' : World} (h : EncPost base w n e w') : EncUni w n e w' := by
  obtain ⟨v, er, rfl, hk, h1, h2⟩ := h
  by_cases hz : szn n = 0
  · obtain ⟨rfl, rfl⟩ := h1 hz
    refine ⟨none, 0, by simp [encL, encE, hz], ?_, hk⟩
    simp only [encL, hz, if_true]
    exact ⟨none, 0, rfl, Nat.le_refl _, by simp [maxLen], fun _ => rfl, fun h => by simp [u8s] at h⟩
  · obtain ⟨rfl, ho, _⟩ := h2 hz
    obtain ⟨ao, cap, rfl, _, _⟩ := owns_shape ho
    refine ⟨ao, cap, by simp [encL, encE, hz], ?_, hk⟩
    simp only [encL, if_neg hz]
    exact sl_of_owns ho

theorem encL_le (n : Int) : (encL n).length ≤ 7 := by
  unfold encL
  split
  · simp
  · rename_i h
    have hz := szn_zero n
    have : n.toNat < 68719476736 := by omega
    rw [enc_length _ this]
    exact szn_le _

set_option maxHeartbeats 1000000 in
theorem walk_NumberTells (w : World) (n : Int) (_w0 : (Lit.int .i64 n).wf = true) (v : Value) (zs : List Int) (s : Sl w v (zs.map (Value.int .u8))) (hz : ∀ n ∈ zs, (Lit.int .u8 n).wf = true) :
    Calls Try.prog 3 #[.int .i64 n, v] w fun e w' => e = .returned (.bool true) ∧ Kept Nix w w' := by
  obtain ⟨B, sB, hB, hlB⟩ := s.nats hz
  clear s hz hlB
  have HA := Lib.hid (awake_any w)
  obtain ⟨ao, cap, rfl⟩ := sB.shape
  have HSB := Lib.hid sB
  have HB := Lib.hid hB
  clear sB hB
  by_cases hlen : 20 < (B.length : Int)
  · go_enter Try.func3, Try.ntmps3
    go_wp2_with fail
    refine HA.out.mono ?_
    rintro e w1 ⟨rfl, k1⟩
    go_wp2_with fail
    go_ret
    exact ⟨rfl, k1⟩
  · have hlen2 : decide (20 < (B.length : Int)) = false := by simpa using hlen
    have HLEN := Lib.hid (show B.length < 1099511627776 by omega)
    clear hlen
    have HZ := Lib.hid (nsize_any n)
    have HRZ := Lib.hid (refSize_any n)
    have HEL := Lib.hid (encL_le n)
    have HEN := Lib.hid (fun w => (encode_any 0 n w (Nat.zero_le _)).mono (fun e w' h => encUni_of h))
    have HRE := Lib.hid (fun w => (refEncode_any n w).mono (fun e w' h => encUni_of h))
    unfold EncUni at HEN HRE
    generalize encL n = E at *
    generalize encE n = er at *
    generalize szn n = sz at *
    go_enter Try.func3, Try.ntmps3
    go_wp2_with fail
    refine HA.out.mono ?_
    rintro e w1 ⟨rfl, k1⟩
    go_wp2_with fail
    refine (HEN.out _).mono ?_
    rintro e w2 ⟨a2, c2, rfl, s2, k2⟩
    go_wp2_with fail
    refine (HRE.out _).mono ?_
    rintro e w3 ⟨a3, c3, rfl, s3, k3⟩
    have k13 := nix_trans (nix_trans k1 k2) k3
    have D := Lib.hid (decode_any _ B w3 (HSB.out.nix k13) HB.out HLEN.out)
    go_wp2_with fail
    refine D.out.mono ?_
    rintro e w4 ⟨rfl, n4, hw4⟩
    have k34 : Kept Nix w3 w4 := by rw [hw4]; exact (Kept.refl Nix w3).drewN n4
    have D2 := Lib.hid (refDecode_any _ B w4 (HSB.out.nix (nix_trans k13 k34)) HB.out HLEN.out)
    clear hw4
    generalize dec B = x at *
    obtain ⟨x1, x2, x3⟩ := x
    go_wp2_with fail
    refine D2.out.mono ?_
    rintro e w5 ⟨rfl, k45⟩
    have k35 := nix_trans k34 k45
    have S := same_any _ _ _ _ w5 (s2.nix (nix_trans k3 k35)) (s3.nix k35) (by have := HEL.out; omega)
    simp only [decide_true] at S
    have S := Lib.hid S
    have K5 := nix_trans k13 k35
    have t1 : (er == er) = true := by simp
    have t2 : ((sz : Int) == (sz : Int)) = true := by simp
    have t3 : ((x1 : Int) == (x1 : Int)) = true := by simp
    have t4 : ((x2 : Int) == (x2 : Int)) = true := by simp
    have t5 : ((x3 : Int) == (x3 : Int)) = true := by simp
    clear D D2 s2 s3
    go_wp2_with fail
    refine S.out.mono ?_
    rintro e w6 ⟨rfl, n6, hw6⟩
    have k6 : Kept Nix w w6 := by rw [hw6]; exact K5.drewN n6
    clear hw6
    go_wp2_with (go_at_call 15; refine (HZ.out _).mono ?_; rintro e w' ⟨rfl, rfl⟩)
    refine (HRZ.out _).mono ?_
    rintro e w7 ⟨rfl, k7⟩
    go_wp2_with fail
    go_ret
    exact ⟨rfl, nix_trans k6 k7⟩

end Go.Proofs.Ytipbldajpdacdaa
