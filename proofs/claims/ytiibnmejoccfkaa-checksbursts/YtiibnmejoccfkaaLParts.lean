/- The walk of ChecksParts. -/
import Derived.Test.YtiibnmejoccfkaaAwake04
import Derived.Test.YtiibnmejoccfkaaCrcSums
import Derived.Test.YtiibnmejoccfkaaArgs
namespace Go.Proofs.Ytiibnmejoccfkaa
open Go.RowKit Bx Crc

theorem sl_nil (w : World) : Sl w (.slice none 0 0) (u8s []) := ⟨none, 0, rfl, Nat.le_refl _, by simp [maxLen], fun _ => rfl, fun h => by simp [u8s] at h⟩

theorem src_u8s {w : World} {ao : Option Addr} {n cap : Nat} {B : List Nat} (h : Sl w (.slice ao n cap) (u8s B)) : SrcIs w 1 ao n cap (u8s B) := by
  obtain ⟨ao', cap', e, hs⟩ := src_of_sl h (u8s_one B)
  simp only [Value.slice.injEq, u8s_length] at e
  obtain ⟨rfl, rfl, rfl⟩ := e
  rwa [u8s_length] at hs

/-- A new empty slice has grown: nothing that was there has turned. -/
theorem kept_new {w w1 : World} {o : Obj} (hg : (w.alloc o).grownBy w1 (Value.slice (some ⟨w.heap.size, 0, none⟩) 0 0).ownBlock) : Kept Nix w w1 :=
  ((Kept.refl _ w).alloc o).grown hg (fun k hk => .inr (by have hk' : some w.heap.size = some k := hk; simp only [Option.some.injEq] at hk'; omega))

set_option maxHeartbeats 1000000 in
theorem walk_ChecksParts (w : World) (va : Value) (za : List Int) (sa : Sl w va (za.map (Value.int .u8))) (hza : ∀ n ∈ za, (Lit.int .u8 n).wf = true)
    (vb : Value) (zb : List Int) (sb : Sl w vb (zb.map (Value.int .u8))) (hzb : ∀ n ∈ zb, (Lit.int .u8 n).wf = true) (a1 : Int) (h1 : (Lit.int .u8 a1).wf = true) (a2 : Int) (h2 : (Lit.int .u16 a2).wf = true) :
    Calls Try.prog 4 #[va, vb, .int .u8 a1, .int .u16 a2] w fun e w' => e = .returned (.bool true) ∧ Kept Nix w w' := by
  have HA := Lib.hid (awake_any w)
  obtain ⟨A, hsa, hA, -⟩ := sa.nats hza
  obtain ⟨B, hsb, hB, -⟩ := sb.nats hzb
  obtain ⟨c, rfl, hc⟩ := nat_u8 h1
  obtain ⟨d, rfl, hd⟩ := nat_u16 h2
  clear sa sb hza hzb h1 h2
  obtain ⟨aa, ca, rfl⟩ := hsa.shape
  obtain ⟨ab, cb, rfl⟩ := hsb.shape
  have HSA := Lib.hid hsa
  have HSB := Lib.hid hsb
  have HAB := Lib.hid hA
  have HBB := Lib.hid hB
  clear hsa hsb hA hB
  by_cases hlen : 200 < (A.length : Int)
  · go_enter Try.func4, Try.ntmps4
    go_wp2_with fail
    refine HA.out.mono ?_
    rintro e w1 ⟨rfl, k1⟩
    go_wp2_with fail
    go_ret
    exact ⟨rfl, k1⟩
  · have hl2 : decide (200 < (A.length : Int)) = false := by simpa using hlen
    have HL : Hid (A.length ≤ 200) := Lib.hid (by omega)
    clear hlen
    by_cases hlen : 200 < (B.length : Int)
    · go_enter Try.func4, Try.ntmps4
      go_wp2_with fail
      refine HA.out.mono ?_
      rintro e w1 ⟨rfl, k1⟩
      go_wp2_with fail
      go_ret
      exact ⟨rfl, k1⟩
    · have hl3 : decide (200 < (B.length : Int)) = false := by simpa using hlen
      have HL3 : Hid (B.length ≤ 200) := Lib.hid (by omega)
      clear hlen
      go_enter Try.func4, Try.ntmps4
      go_wp2_with fail
      refine HA.out.mono ?_
      rintro e w1 ⟨rfl, k1⟩
      have H1 := Lib.hid (build_any w1)
      go_wp2_with fail
      refine H1.out.mono ?_
      rintro e w2 ⟨rfl, t2, k2⟩
      have HT := Lib.hid t2
      have k2 := nix_trans k1 k2
      have H2 := Lib.hid (build_any w2)
      clear t2
      go_wp2_with fail
      refine H2.out.mono ?_
      rintro e w3 ⟨rfl, t3, k3⟩
      have HT := Lib.hid (HT.out.kept k3 (fun h => h))
      have HU := Lib.hid t3
      have k3 := nix_trans k2 k3
      clear t3 H1 H2 HA
      generalize w1.heap.size = pt at *
      generalize w2.heap.size = pu at *
      have S1 := Lib.hid (src_u8s (HSA.out.nix k3))
      go_wp2_with (at_builtin; refine wpList_app _ rfl (.tmp 31) (.tmp 32) 22 rfl w3.heap.size 5 (.int .u8 0) 1 1 Try.underlying22 info_u8 rfl (by decide) (.slice (some ⟨w3.heap.size, 0, none⟩) 0 0) 0 [] rfl ?_ aa A.length ca (u8s A) rfl ?_ ?_ ?_ ?_ ?_)
      · exact World.ownsRow_made w3 #[] 0 (Nat.le_refl _) (by simp [maxLen]) rfl
      · exact S1.out.alloc _
      · have := HL.out; simp only [maxLen]; omega
      · have := HL.out; omega
      · simp
      · intro v4 w4 o4 g4 n4
        have k4 := kept_new g4
        have S2 := Lib.hid (src_u8s (HSB.out.nix (nix_trans k3 k4)))
        obtain ⟨a4, c4, rfl, _, _⟩ := owns_shape o4
        have O4 := Lib.hid o4
        clear o4 g4 n4 S1
        go_wp2_with (at_builtin; refine wpList_app _ rfl (.tmp 33) (.tmp 34) 22 rfl w3.heap.size 5 (.int .u8 0) 1 1 Try.underlying22 info_u8 rfl (by decide) _ A.length (u8s A) rfl O4.out ab B.length cb (u8s B) rfl S2.out ?_ ?_ ?_ ?_)
        · have := HL.out; have := HL3.out; simp only [maxLen]; omega
        · have := HL.out; have := HL3.out; omega
        · exact k4.size
        · intro v5 w5 o5 g5 n5
          have k5 : Kept Nix w3 w5 := k4.grown g5 (fun k hk => .inr (O4.out.lt k hk).1)
          have t5 := HT.out.kept k5 (fun h => h)
          have u5 := HU.out.kept k5 (fun h => h)
          have a5 := HSA.out.nix (nix_trans k3 k5)
          have b5 := HSB.out.nix (nix_trans k3 k5)
          rw [← u8s_append, ← List.length_append] at o5
          have s5 := sl_of_owns o5
          obtain ⟨ao5, co5, rfl, _, _⟩ := owns_shape o5
          have hx : crc 8 7 c (bitsOf A) < 256 := crc_lt (W := 8) (by decide) _ _ hc
          have hy : crc 16 32773 d (bitsOf A) < 65536 := crc_lt (W := 16) (by decide) _ _ hd
          have hAB : ∀ b ∈ A ++ B, b < 256 := by
            intro b hb
            rcases List.mem_append.1 hb with hb | hb
            · exact HAB.out b hb
            · exact HBB.out b hb
          have E1 := teight_any pu c _ A w5 u5 hc a5 HAB.out
          have E2 := teight_any pt _ _ B w5 t5 hx b5 HBB.out
          have E3 := teight_any pt c _ (A ++ B) w5 t5 hc s5 hAB
          have E4 := tsixteen_any pu d _ A w5 u5 hd a5 HAB.out
          have E5 := tsixteen_any pt _ _ B w5 t5 hy b5 HBB.out
          have E6 := tsixteen_any pt d _ (A ++ B) w5 t5 hd s5 hAB
          have E7 := teight_any pt c _ [] w5 t5 hc (sl_nil _) (by simp)
          have E8 := tsixteen_any pt d _ [] w5 t5 hd (sl_nil _) (by simp)
          rw [← crc_append, ← bitsOf_append] at E2 E5
          have z8 : crc 8 7 c (bitsOf []) = c := rfl
          have z16 : crc 16 32773 d (bitsOf []) = d := rfl
          rw [z8] at E7
          rw [z16] at E8
          have E1 := Lib.hid E1
          have E2 := Lib.hid E2
          have E3 := Lib.hid E3
          have E4 := Lib.hid E4
          have E5 := Lib.hid E5
          have E6 := Lib.hid E6
          have E7 := Lib.hid E7
          have E8 := Lib.hid E8
          have k5 := nix_trans k3 k5
          generalize crc 8 7 c (bitsOf A) = x1 at *
          generalize crc 8 7 c (bitsOf (A ++ B)) = x2 at *
          generalize crc 16 32773 d (bitsOf A) = x3 at *
          generalize crc 16 32773 d (bitsOf (A ++ B)) = x4 at *
          generalize (A ++ B).length = n at *
          clear t5 u5 a5 b5 s5 o5 g5 n5 hAB z8 z16 k4 k2 k1
          go_wp2_with fail
          refine E1.out.mono ?_
          rintro e w6 ⟨rfl, rfl⟩
          go_wp2_with fail
          refine E2.out.mono ?_
          rintro e w6 ⟨rfl, rfl⟩
          go_wp2_with fail
          refine E3.out.mono ?_
          rintro e w6 ⟨rfl, rfl⟩
          go_wp2_with fail
          refine E4.out.mono ?_
          rintro e w6 ⟨rfl, rfl⟩
          go_wp2_with fail
          refine E5.out.mono ?_
          rintro e w6 ⟨rfl, rfl⟩
          go_wp2_with fail
          refine E6.out.mono ?_
          rintro e w6 ⟨rfl, rfl⟩
          go_wp2_with fail
          refine E7.out.mono ?_
          rintro e w6 ⟨rfl, rfl⟩
          go_wp2_with fail
          refine E8.out.mono ?_
          rintro e w6 ⟨rfl, rfl⟩
          go_wp2_with fail
          go_ret
          exact ⟨rfl, k5⟩

end Go.Proofs.Ytiibnmejoccfkaa
