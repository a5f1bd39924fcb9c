/- The walk of ChecksTell. -/
import Derived.Test.YtiibnmejoccfkaaAwake04
import Derived.Test.YtiibnmejoccfkaaRefChecks
import Derived.Test.YtiibnmejoccfkaaArgs
namespace Go.Proofs.Ytiibnmejoccfkaa
open Go.RowKit Bx Crc

theorem nat_u8 {a : Int} (h : (Lit.int .u8 a).wf = true) : ∃ n : Nat, a = (n : Int) ∧ n < 256 := by
  have := bounds_u8 h
  exact ⟨a.toNat, by omega, by omega⟩
theorem nat_u16 {a : Int} (h : (Lit.int .u16 a).wf = true) : ∃ n : Nat, a = (n : Int) ∧ n < 65536 := by
  have := bounds_u16 h
  exact ⟨a.toNat, by omega, by omega⟩

set_option maxHeartbeats 1000000 in
theorem walk_ChecksTell (w : World) (v : Value) (zs : List Int) (s : Sl w v (zs.map (Value.int .u8))) (hz : ∀ n ∈ zs, (Lit.int .u8 n).wf = true) (a1 : Int) (h1 : (Lit.int .u8 a1).wf = true) (a2 : Int) (h2 : (Lit.int .u16 a2).wf = true) :
    Calls Try.prog 3 #[v, .int .u8 a1, .int .u16 a2] w fun e w' => e = .returned (.bool true) ∧ Kept Nix w w' := by
  have HA := Lib.hid (awake_any w)
  obtain ⟨B, hs, hB, -⟩ := s.nats hz
  obtain ⟨c, rfl, hc⟩ := nat_u8 h1
  obtain ⟨d, rfl, hd⟩ := nat_u16 h2
  clear s hz h1 h2
  obtain ⟨ao, cap, rfl⟩ := hs.shape
  have HS := Lib.hid hs
  have HB := Lib.hid hB
  clear hs hB
  by_cases hlen : 200 < (B.length : Int)
  · go_enter Try.func3, Try.ntmps3
    go_wp2_with fail
    refine HA.out.mono ?_
    rintro e w1 ⟨rfl, k1⟩
    go_wp2_with fail
    go_ret
    exact ⟨rfl, k1⟩
  · have hl2 : decide (200 < (B.length : Int)) = false := by simpa using hlen
    have HL : Hid (B.length ≤ 200) := Lib.hid (by omega)
    clear hlen
    go_enter Try.func3, Try.ntmps3
    go_wp2_with fail
    refine HA.out.mono ?_
    rintro e w1 ⟨rfl, k1⟩
    have H1 := Lib.hid (build_any w1)
    go_wp2_with fail
    refine H1.out.mono ?_
    rintro e w2 ⟨rfl, t2, k2⟩
    have k2 := nix_trans k1 k2
    have H2 := Lib.hid (teight_any _ c _ B w2 t2 hc (HS.out.nix k2) HB.out)
    have T2 := Lib.hid t2
    clear t2
    go_wp2_with fail
    refine H2.out.mono ?_
    rintro e w3 ⟨rfl, rfl⟩
    have H3 := Lib.hid (reight_any c _ B w2 (HS.out.nix k2) HB.out HL.out hc)
    go_wp2_with fail
    refine H3.out.mono ?_
    rintro e w3 ⟨rfl, k3⟩
    have H4 := Lib.hid (tsixteen_any _ d _ B w3 (T2.out.kept k3 (fun h => h)) hd (HS.out.nix (nix_trans k2 k3)) HB.out)
    have k3 := nix_trans k2 k3
    go_wp2_with fail
    refine H4.out.mono ?_
    rintro e w4 ⟨rfl, rfl⟩
    have H5 := Lib.hid (rsixteen_any d _ B w3 (HS.out.nix k3) HB.out HL.out hd)
    go_wp2_with fail
    refine H5.out.mono ?_
    rintro e w4 ⟨rfl, k4⟩
    have k4 := nix_trans k3 k4
    have H6 := Lib.hid (eight_any _ B w4 (HS.out.nix k4) HB.out)
    go_wp2_with fail
    refine H6.out.mono ?_
    rintro e w5 ⟨rfl, k5⟩
    have k5 := nix_trans k4 k5
    have H7 := Lib.hid (reight_any 0 _ B w5 (HS.out.nix k5) HB.out HL.out (by decide))
    go_wp2_with fail
    refine H7.out.mono ?_
    rintro e w6 ⟨rfl, k6⟩
    have k6 := nix_trans k5 k6
    have H8 := Lib.hid (sixteen_any _ B w6 (HS.out.nix k6) HB.out)
    have e8 : crc 8 7 0 (bitsOf B) = c8 B := rfl
    rw [e8]
    go_wp2_with fail
    refine H8.out.mono ?_
    rintro e w7 ⟨rfl, k7⟩
    have k7 := nix_trans k6 k7
    have H9 := Lib.hid (rsixteen_any 0 _ B w7 (HS.out.nix k7) HB.out HL.out (by decide))
    go_wp2_with fail
    refine H9.out.mono ?_
    rintro e w8 ⟨rfl, k8⟩
    have k8 := nix_trans k7 k8
    have e16 : crc 16 32773 0 (bitsOf B) = c16 B := rfl
    rw [e16]
    go_wp2_with fail
    go_ret
    exact ⟨rfl, k8⟩

end Go.Proofs.Ytiibnmejoccfkaa
