/- The walk of ChecksEnds. -/
import Derived.Test.YtiibnmejoccfkaaLParts
namespace Go.Proofs.Ytiibnmejoccfkaa
open Go.RowKit Bx Crc

theorem crc_end {W g r : Nat} (hW : 1 ≤ W) (hg : g % 2 = 1) (hgl : g < 2 ^ W) (l : List Bool) (hl : l.length = W) (hr : r < 2 ^ W) : crc W g r l = 0 ↔ num l = r := by
  have hn := num_lt _ l hl
  rw [crc_num l r (by omega), hl, Nat.sub_self, Nat.pow_zero, Nat.mul_one]
  constructor
  · intro h
    exact (xor_zero_iff (crc_zeros_inj hW hg hgl _ _ (Nat.xor_lt_two_pow hr hn) h)).symm
  · rintro rfl
    rw [Nat.xor_self, crc_zero]

theorem c8_end (B : List Nat) (c : Nat) (hc : c < 256) : c8 (B ++ [c]) = 0 ↔ c = c8 B := by
  unfold c8
  rw [bitsOf_append, crc_append, show bitsOf [c] = dg 8 c by simp [bitsOf]]
  have h := crc_end (W := 8) (g := 7) (by decide) (by decide) (by decide) (dg 8 c) (dg_length 8 c) (c8_lt B)
  rw [num_dg, Nat.mod_eq_of_lt hc] at h
  exact h

theorem c16_end (B : List Nat) (d : Nat) (hd : d < 65536) : c16 (B ++ [d / 256, d % 256]) = 0 ↔ d = c16 B := by
  unfold c16
  rw [bitsOf_append, crc_append, show bitsOf [d / 256, d % 256] = dg 8 (d / 256) ++ dg 8 (d % 256) by simp [bitsOf]]
  have h := crc_end (W := 16) (g := 32773) (by decide) (by decide) (by decide) (dg 8 (d / 256) ++ dg 8 (d % 256)) (by simp [dg_length]) (c16_lt B)
  rw [num_append, dg_length, num_dg, num_dg, show d / 256 % 2 ^ 8 * 2 ^ 8 + d % 256 % 2 ^ 8 = d by omega] at h
  exact h

/-- Two new cells at a new block. -/
theorem src_two (w : World) (x y : Value) (t : TypeId) (h1 : x.oneCell' = true) (h2 : y.oneCell' = true) : SrcIs (w.alloc (.cells #[x, y] t)) 1 (some ⟨w.heap.size, 0, none⟩) 2 2 [x, y] := by
  refine ⟨rfl, fun h => by simp at h, ?_, by simp [h1, h2]⟩
  rintro ad h j u hu
  obtain rfl := Option.some.inj h
  match j, hu with
  | 0, hu =>
    simp at hu
    subst hu
    simp [Addr.add]
  | 1, hu =>
    simp at hu
    subst hu
    simp [Addr.add]

set_option maxHeartbeats 1000000 in
theorem walk_ChecksEnds (w : World) (v : Value) (zs : List Int) (s : Sl w v (zs.map (Value.int .u8))) (hz : ∀ n ∈ zs, (Lit.int .u8 n).wf = true) (a1 : Int) (h1 : (Lit.int .u8 a1).wf = true) (a2 : Int) (h2 : (Lit.int .u16 a2).wf = true) :
    Calls Try.prog 5 #[v, .int .u8 a1, .int .u16 a2] w fun e w' => e = .returned (.bool true) ∧ Kept Nix w w' := by
  have HA := Lib.hid (awake_any w)
  obtain ⟨B, hs, hB, -⟩ := s.nats hz
  obtain ⟨c, rfl, hc⟩ := nat_u8 h1
  obtain ⟨d, rfl, hd⟩ := nat_u16 h2
  clear s hz h1 h2
  obtain ⟨ao, cap, rfl⟩ := hs.shape
  have HS := Lib.hid hs
  have HB := Lib.hid hB
  clear hs hB
  by_cases hlen : 200 < (B.length : Int)
  · go_enter Try.func5, Try.ntmps5
    go_wp2_with fail
    refine HA.out.mono ?_
    rintro e w1 ⟨rfl, k1⟩
    go_wp2_with fail
    go_ret
    exact ⟨rfl, k1⟩
  · have hl2 : decide (200 < (B.length : Int)) = false := by simpa using hlen
    have HL : Hid (B.length ≤ 200) := Lib.hid (by omega)
    clear hlen
    go_enter Try.func5, Try.ntmps5
    go_wp2_with fail
    refine HA.out.mono ?_
    rintro e w1 ⟨rfl, k1⟩
    have S1 := Lib.hid (src_u8s (HS.out.nix k1))
    clear HA
    go_wp2_with (at_builtin; refine wpList_app _ rfl (.tmp 15) (.tmp 16) 22 rfl w1.heap.size 5 (.int .u8 0) 1 1 Try.underlying22 info_u8 rfl (by decide) (.slice (some ⟨w1.heap.size, 0, none⟩) 0 0) 0 [] rfl ?_ ao B.length cap (u8s B) rfl ?_ ?_ ?_ ?_ ?_)
    · exact World.ownsRow_made w1 #[] 0 (Nat.le_refl _) (by simp [maxLen]) rfl
    · exact S1.out.alloc _
    · have := HL.out; simp only [maxLen]; omega
    · have := HL.out; omega
    · simp
    · intro v2 w2 o2 g2 n2
      have k2 := kept_new g2
      obtain ⟨a2, c2, rfl, _, _⟩ := owns_shape o2
      have O2 := Lib.hid o2
      clear o2 g2 n2 S1
      go_wp2_with (at_builtin; refine wpList_app _ rfl (.tmp 17) (.tmp 19) 22 rfl w1.heap.size 5 (.int .u8 0) 1 1 Try.underlying22 info_u8 rfl (by decide) _ B.length (u8s B) rfl ?_ _ 1 1 [.int .u8 (c : Int)] rfl (src_one _ _ _ rfl) ?_ ?_ ?_ ?_)
      · exact ((Kept.refl Nix w2).alloc _).owns O2.out (fun _ _ h => h)
      · have := HL.out; simp only [maxLen]; omega
      · have := HL.out; omega
      · simp; have := k2.size; omega
      · intro v3 w3 o3 g3 n3
        have k3 : Kept Nix w1 w3 := (k2.alloc _).grown g3 (fun k hk => .inr (O2.out.lt k hk).1)
        have e3 : u8s B ++ [.int .u8 (c : Int)] = u8s (B ++ [c]) := by simp [u8s]
        rw [e3] at o3
        have s3 := sl_of_owns o3
        obtain ⟨a3, c3, rfl, _, _⟩ := owns_shape o3
        have S3 := Lib.hid s3
        have S1 := Lib.hid (src_u8s (HS.out.nix (nix_trans k1 k3)))
        clear o3 g3 n3 e3 O2 s3 k2
        go_wp2_with (at_builtin; refine wpList_app _ rfl (.tmp 21) (.tmp 22) 22 rfl w3.heap.size 5 (.int .u8 0) 1 1 Try.underlying22 info_u8 rfl (by decide) (.slice (some ⟨w3.heap.size, 0, none⟩) 0 0) 0 [] rfl ?_ ao B.length cap (u8s B) rfl ?_ ?_ ?_ ?_ ?_)
        · exact World.ownsRow_made w3 #[] 0 (Nat.le_refl _) (by simp [maxLen]) rfl
        · exact S1.out.alloc _
        · have := HL.out; simp only [maxLen]; omega
        · have := HL.out; omega
        · simp
        · intro v4 w4 o4 g4 n4
          have k4 := kept_new g4
          obtain ⟨a4, c4, rfl, _, _⟩ := owns_shape o4
          have O4 := Lib.hid o4
          clear o4 g4 n4 S1
          go_wp2_with (at_builtin; refine wpList_app _ rfl (.tmp 23) (.tmp 29) 22 rfl w3.heap.size 5 (.int .u8 0) 1 1 Try.underlying22 info_u8 rfl (by decide) _ B.length (u8s B) rfl ?_ _ 2 2 [_, _] rfl (src_two _ _ _ _ rfl rfl) ?_ ?_ ?_ ?_)
          · exact ((Kept.refl Nix w4).alloc _).owns O4.out (fun _ _ h => h)
          · have := HL.out; simp only [maxLen]; omega
          · have := HL.out; omega
          · simp; have := k4.size; omega
          · intro v5 w5 o5 g5 n5
            have k5 : Kept Nix w3 w5 := (k4.alloc _).grown g5 (fun k hk => .inr (O4.out.lt k hk).1)
            have e5 : u8s B ++ [.int .u8 ((d : Int) / 256), .int .u8 ((d : Int) % 256)] = u8s (B ++ [d / 256, d % 256]) := by
              rw [u8s_append, show (d : Int) / 256 = ((d / 256 : Nat) : Int) by omega, show (d : Int) % 256 = ((d % 256 : Nat) : Int) by omega]
              rfl
            rw [e5] at o5
            have s5 := sl_of_owns o5
            obtain ⟨a5, c5, rfl, _, _⟩ := owns_shape o5
            have k5' := nix_trans k1 (nix_trans k3 k5)
            have hx : ∀ b ∈ B ++ [c], b < 256 := by
              intro b hb
              rcases List.mem_append.1 hb with hb | hb
              · exact HB.out b hb
              · simp at hb; omega
            have hy : ∀ b ∈ B ++ [d / 256, d % 256], b < 256 := by
              intro b hb
              rcases List.mem_append.1 hb with hb | hb
              · exact HB.out b hb
              · simp at hb; omega
            have E1 := Lib.hid (eight_any _ _ w5 (S3.out.nix k5) hx)
            have E2 := Lib.hid (fun w' (k : Kept Nix w w') => eight_any _ B w' (HS.out.nix k) HB.out)
            have E3 := Lib.hid (fun w' (k : Kept Nix w5 w') => sixteen_any _ _ w' (s5.nix k) hy)
            have E4 := Lib.hid (fun w' (k : Kept Nix w w') => sixteen_any _ B w' (HS.out.nix k) HB.out)
            have q8 : ((c8 (B ++ [c]) : Int) == 0) = ((c : Int) == (c8 B : Int)) := by
              have h := c8_end B c hc
              rw [Bool.eq_iff_iff, beq_iff_eq, beq_iff_eq]
              omega
            have q16 : ((c16 (B ++ [d / 256, d % 256]) : Int) == 0) = ((d : Int) == (c16 B : Int)) := by
              have h := c16_end B d hd
              rw [Bool.eq_iff_iff, beq_iff_eq, beq_iff_eq]
              omega
            clear e5 o5 g5 n5 s5 hx hy k3 k4 k5 O4 S3 HB HS k1
            generalize c8 (B ++ [c]) = x1 at *
            generalize c8 B = x2 at *
            generalize c16 (B ++ [d / 256, d % 256]) = x3 at *
            generalize c16 B = x4 at *
            have Q8 := Lib.hid q8
            have Q16 := Lib.hid q16
            clear q8 q16
            go_wp2_with fail
            refine E1.out.mono ?_
            rintro e w6 ⟨rfl, k6⟩
            have H2 := Lib.hid (E2.out w6 (nix_trans k5' k6))
            go_wp2_with fail
            refine H2.out.mono ?_
            rintro e w7 ⟨rfl, k7⟩
            have H3 := Lib.hid (E3.out w7 (nix_trans k6 k7))
            rw [Q8.out]
            go_wp2_with fail
            refine H3.out.mono ?_
            rintro e w8 ⟨rfl, k8⟩
            have k8' := nix_trans (nix_trans (nix_trans k5' k6) k7) k8
            have H4 := Lib.hid (E4.out w8 k8')
            go_wp2_with fail
            refine H4.out.mono ?_
            rintro e w9 ⟨rfl, k9⟩
            rw [Q16.out]
            go_wp2_with fail
            go_ret
            exact ⟨rfl, nix_trans k8' k9⟩

end Go.Proofs.Ytiibnmejoccfkaa
