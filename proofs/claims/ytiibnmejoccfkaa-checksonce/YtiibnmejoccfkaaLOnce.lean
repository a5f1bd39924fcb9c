/- The walk of ChecksOnce. -/
import Derived.Test.YtiibnmejoccfkaaLParts
import Derived.Test.YtiibnmejoccfkaaLSums
namespace Go.Proofs.Ytiibnmejoccfkaa
open Go.RowKit Bx Crc

theorem crc_first {W g : Nat} (hW : 1 ≤ W) (hg : g % 2 = 1) (hgl : g < 2 ^ W) (l m : List Bool) (hl : l.length = W) (hm : m.length = W) (M : List Bool) (h : crc W g 0 (l ++ M) = crc W g 0 (m ++ M)) : num l = num m := by
  have h0 := Nat.two_pow_pos W
  rw [crc_append, crc_append] at h
  have h1 := crc_inj hW hg hgl M (crc_lt hgl l 0 h0) (crc_lt hgl m 0 h0) h
  rw [crc_num l 0 (by omega), crc_num m 0 (by omega), hl, hm, Nat.sub_self, Nat.pow_zero, Nat.mul_one, Nat.mul_one, Nat.zero_xor, Nat.zero_xor] at h1
  exact crc_inj hW hg hgl _ (num_lt _ l hl) (num_lt _ m hm) h1

theorem c8_once (a b : Nat) (M : List Nat) (ha : a < 256) (hb : b < 256) : c8 ([a] ++ M) = c8 ([b] ++ M) ↔ a = b := by
  constructor
  · intro h
    unfold c8 at h
    rw [bitsOf_append, bitsOf_append, show bitsOf [a] = dg 8 a by simp [bitsOf], show bitsOf [b] = dg 8 b by simp [bitsOf]] at h
    have h1 := crc_first (W := 8) (g := 7) (by decide) (by decide) (by decide) _ _ (dg_length 8 a) (dg_length 8 b) _ h
    rw [num_dg, num_dg, Nat.mod_eq_of_lt ha, Nat.mod_eq_of_lt hb] at h1
    exact h1
  · rintro rfl; rfl

theorem c16_once (a a' b b' : Nat) (M : List Nat) (ha : a < 256) (ha' : a' < 256) (hb : b < 256) (hb' : b' < 256) : c16 ([a, a'] ++ M) = c16 ([b, b'] ++ M) ↔ (a = b ∧ a' = b') := by
  constructor
  · intro h
    unfold c16 at h
    rw [bitsOf_append, bitsOf_append, show bitsOf [a, a'] = dg 8 a ++ dg 8 a' by simp [bitsOf], show bitsOf [b, b'] = dg 8 b ++ dg 8 b' by simp [bitsOf]] at h
    have h1 := crc_first (W := 16) (g := 32773) (by decide) (by decide) (by decide) _ _ (by simp [dg_length]) (by simp [dg_length]) _ h
    rw [num_append, num_append, dg_length, dg_length, num_dg, num_dg, num_dg, num_dg] at h1
    omega
  · rintro ⟨rfl, rfl⟩; rfl

theorem eq_pair (a b c d : Int) (w : World) : (Op.equalIn 10000 36 (.agg #[.int .u8 a, .int .u8 b]) (.agg #[.int .u8 c, .int .u8 d])).run Try.prog w = .ok (a == c && b == d) w := by
  have u3 := Try.underlying5
  have a3 := Try.isAgg5
  have z3 := Try.sizeOf5
  rw [show (10000 : Nat) = 9999 + 1 from rfl, Op.equalIn]
  simp only [Sem.run_bind, run_underlying Try.underlying36, Result.andThen_ok]
  simp only [Std.Legacy.Range.forIn_eq_forIn_range', Std.Legacy.Range.size, Nat.sub_zero, Nat.add_sub_cancel, Nat.div_one, List.range'_succ, List.range'_zero, List.forIn_cons, List.forIn_nil]
  go_simp
  by_cases h1 : a = c <;> by_cases h2 : b = d <;> simp [h1, h2]

/-- At block p lie two bytes. -/
def Two (w : World) (p x y : Nat) : Prop := w.heap[p]? = some (.cells #[.int .u8 (x : Int), .int .u8 (y : Int)] 36 (0, 0))

theorem two_new (w : World) (x y : Nat) : Two (w.alloc (.cells #[.int .u8 (x : Int), .int .u8 (y : Int)] 36)) w.heap.size x y := heap_alloc_new _ _
theorem two_first (w : World) (x y : Nat) (o : Obj) : Two ((w.alloc (.cells #[.int .u8 (x : Int), .int .u8 (y : Int)] 36)).alloc o) w.heap.size x y := by
  exact ((Kept.refl Nix _).alloc o).heap (two_new w x y) (fun h => h)
theorem Two.cell {w : World} {p x y : Nat} (h : Two w p x y) : w.cell? ⟨p, 0, none⟩ = some (.int .u8 (x : Int)) ∧ w.cell? ⟨p, 1, none⟩ = some (.int .u8 (y : Int)) := by
  constructor <;> rw [cell_of h] <;> rfl
theorem Two.cell_alloc {w : World} {p x y : Nat} (h : Two w p x y) {o : Obj} : (w.alloc o).cell? ⟨p, 0, none⟩ = some (.int .u8 (x : Int)) ∧ (w.alloc o).cell? ⟨p, 1, none⟩ = some (.int .u8 (y : Int)) := by
  have h1 : Two (w.alloc o) p x y := ((Kept.refl Nix _).alloc o).heap h (fun h => h)
  exact h1.cell
theorem Two.src {w : World} {p x y : Nat} (h : Two w p x y) : SrcIs w 1 (some ⟨p, 0, none⟩) 2 2 [.int .u8 (x : Int), .int .u8 (y : Int)] := by
  refine ⟨rfl, fun h => by simp at h, ?_, by simp [Value.oneCell']⟩
  rintro ad e j u hu
  obtain rfl := Option.some.inj e
  match j, hu with
  | 0, hu =>
    simp at hu
    subst hu
    rw [Addr.add_lit]; exact h.cell.1
  | 1, hu =>
    simp at hu
    subst hu
    rw [Addr.add_lit]; exact h.cell.2

set_option maxHeartbeats 2000000 in
theorem walk_ChecksOnce (w : World) (x0 y0 : Int) (hx0 : (Lit.int .u8 x0).wf = true) (hy0 : (Lit.int .u8 y0).wf = true) (x1 y1 : Int) (hx1 : (Lit.int .u8 x1).wf = true) (hy1 : (Lit.int .u8 y1).wf = true)
    (v : Value) (zs : List Int) (s : Sl w v (zs.map (Value.int .u8))) (hz : ∀ n ∈ zs, (Lit.int .u8 n).wf = true) :
    Calls Try.prog 8 #[.agg #[.int .u8 x0, .int .u8 y0], .agg #[.int .u8 x1, .int .u8 y1], v] w fun e w' => e = .returned (.bool true) ∧ Kept Nix w w' := by
  obtain ⟨M, hs, hM, -⟩ := s.nats hz
  obtain ⟨a, rfl, ha⟩ := nat_u8 hx0
  obtain ⟨a', rfl, ha'⟩ := nat_u8 hy0
  obtain ⟨b, rfl, hb⟩ := nat_u8 hx1
  obtain ⟨b', rfl, hb'⟩ := nat_u8 hy1
  clear s hz hx0 hy0 hx1 hy1
  obtain ⟨ao, cap, rfl⟩ := hs.shape
  have HS := Lib.hid hs
  have HM := Lib.hid hM
  clear hs hM
  have k0 : Kept Nix w ((w.alloc (.cells #[.int .u8 (a : Int), .int .u8 (a' : Int)] 36)).alloc (.cells #[.int .u8 (b : Int), .int .u8 (b' : Int)] 36)) := ((Kept.refl _ w).alloc _).alloc _
  have HA := Lib.hid (awake_any ((w.alloc (.cells #[.int .u8 (a : Int), .int .u8 (a' : Int)] 36)).alloc (.cells #[.int .u8 (b : Int), .int .u8 (b' : Int)] 36)))
  by_cases hlen : 100 < (M.length : Int)
  · go_enter Try.func8, Try.ntmps8
    go_wp2_with fail
    refine HA.out.mono ?_
    rintro e w1 ⟨rfl, k1⟩
    go_wp2_with fail
    go_ret
    exact ⟨rfl, nix_trans k0 k1⟩
  · have hl2 : decide (100 < (M.length : Int)) = false := by simpa using hlen
    have HL : Hid (M.length ≤ 100) := Lib.hid (by omega)
    clear hlen
    go_enter Try.func8, Try.ntmps8
    go_wp2_with fail
    refine HA.out.mono ?_
    rintro e w1 ⟨rfl, k1⟩
    have ta : Two w1 w.heap.size a a' := k1.heap (two_first w a a' _) (fun h => h)
    have tb0 := two_new (w.alloc (.cells #[.int .u8 (a : Int), .int .u8 (a' : Int)] 36)) b b'
    have tb : Two w1 (w.alloc (.cells #[.int .u8 (a : Int), .int .u8 (a' : Int)] 36)).heap.size b b' := k1.heap tb0 (fun h => h)
    rw [show (w.alloc (.cells #[.int .u8 (a : Int), .int .u8 (a' : Int)] 36)).heap.size = w.heap.size + 1 by simp] at tb
    clear tb0
    have k1 := nix_trans k0 k1
    clear k0 HA
    generalize w.heap.size = p at *
    generalize p + 1 = q at *
    have hc1 := fun o => Two.cell_alloc ta (o := o)
    have hcc1 : (w1.alloc (.cells #[] 5)).cell? ⟨p, 0, none⟩ = some (.int .u8 (a : Int)) := (hc1 _).1
    clear hc1
    have TA := Lib.hid ta
    have TB := Lib.hid tb
    clear ta tb
    go_wp2_with (at_builtin; refine wpList_app _ rfl (.tmp 17) (.tmp 20) 22 rfl w1.heap.size 5 (.int .u8 0) 1 1 Try.underlying22 info_u8 rfl (by decide) (.slice (some ⟨w1.heap.size, 0, none⟩) 0 0) 0 [] rfl ?_ _ 1 1 [.int .u8 (a : Int)] rfl ?_ ?_ ?_ ?_ ?_)
    · exact ((Kept.refl Nix _).alloc _).owns (World.ownsRow_made w1 #[] 0 (Nat.le_refl _) (by simp [maxLen]) rfl) (fun _ _ h => h)
    · first | exact src_one _ _ _ rfl | (simpa using src_one (w1.alloc (.cells #[] 5)) (.int .u8 (a : Int)) 5 rfl)
    · simp only [maxLen]; omega
    · omega
    · simp; omega
    · intro v2 w2 o2 g2 n2
      have k2 : Kept Nix w1 w2 := (((Kept.refl _ w1).alloc _).alloc _).grown g2 (fun k hk => .inr (by have hk' : some w1.heap.size = some k := hk; simp only [Option.some.injEq] at hk'; omega))
      have e2 : ([.int .u8 (a : Int)] : List Value) = u8s [a] := rfl
      try simp only [List.nil_append, Nat.zero_add] at o2
      rw [e2] at o2
      obtain ⟨ad2, cp2, rfl, _, _⟩ := owns_shape o2
      have O2 := Lib.hid o2
      have SM2 := Lib.hid (src_u8s (HS.out.nix (nix_trans k1 k2)))
      clear o2 g2 n2 e2
      go_wp2_with (at_builtin; refine wpList_app _ rfl (.tmp 21) (.tmp 22) 22 rfl w1.heap.size 5 (.int .u8 0) 1 1 Try.underlying22 info_u8 rfl (by decide) _ 1 _ rfl O2.out ao M.length cap (u8s M) rfl SM2.out ?_ ?_ ?_ ?_)
      · have := HL.out; simp only [maxLen]; omega
      · have := HL.out; omega
      · exact k2.size
      · intro v3 w3 o3 g3 n3
        have kk3 : Kept Nix w1 w3 := k2.grown g3 (fun k hk => .inr (O2.out.lt k hk).1)
        rw [← u8s_append] at o3
        have sl3 := sl_of_owns o3
        obtain ⟨ad3, cp3, rfl, _, _⟩ := owns_shape o3
        have SL3 := Lib.hid sl3
        have ta : Two w3 p a a' := kk3.heap TA.out (fun h => h)
        have tb : Two w3 q b b' := kk3.heap TB.out (fun h => h)
        have KK3 := Lib.hid kk3
        have k3 := nix_trans k1 kk3
        clear o3 g3 n3 sl3 kk3 k2 k1 O2 SM2 TA TB hcc1
        have hc3 := fun o => Two.cell_alloc tb (o := o)
        have hcc3 : (w3.alloc (.cells #[] 5)).cell? ⟨q, 0, none⟩ = some (.int .u8 (b : Int)) := (hc3 _).1
        clear hc3
        have TA := Lib.hid ta
        have TB := Lib.hid tb
        clear ta tb
        go_wp2_with (at_builtin; refine wpList_app _ rfl (.tmp 24) (.tmp 27) 22 rfl w3.heap.size 5 (.int .u8 0) 1 1 Try.underlying22 info_u8 rfl (by decide) (.slice (some ⟨w3.heap.size, 0, none⟩) 0 0) 0 [] rfl ?_ _ 1 1 [.int .u8 (b : Int)] rfl ?_ ?_ ?_ ?_ ?_)
        · exact ((Kept.refl Nix _).alloc _).owns (World.ownsRow_made w3 #[] 0 (Nat.le_refl _) (by simp [maxLen]) rfl) (fun _ _ h => h)
        · first | exact src_one _ _ _ rfl | (simpa using src_one (w3.alloc (.cells #[] 5)) (.int .u8 (b : Int)) 5 rfl)
        · simp only [maxLen]; omega
        · omega
        · simp; omega
        · intro v4 w4 o4 g4 n4
          have k4 : Kept Nix w3 w4 := (((Kept.refl _ w3).alloc _).alloc _).grown g4 (fun k hk => .inr (by have hk' : some w3.heap.size = some k := hk; simp only [Option.some.injEq] at hk'; omega))
          have e4 : ([.int .u8 (b : Int)] : List Value) = u8s [b] := rfl
          try simp only [List.nil_append, Nat.zero_add] at o4
          rw [e4] at o4
          obtain ⟨ad4, cp4, rfl, _, _⟩ := owns_shape o4
          have O4 := Lib.hid o4
          have SM4 := Lib.hid (src_u8s (HS.out.nix (nix_trans k3 k4)))
          clear o4 g4 n4 e4
          go_wp2_with (at_builtin; refine wpList_app _ rfl (.tmp 28) (.tmp 29) 22 rfl w3.heap.size 5 (.int .u8 0) 1 1 Try.underlying22 info_u8 rfl (by decide) _ 1 _ rfl O4.out ao M.length cap (u8s M) rfl SM4.out ?_ ?_ ?_ ?_)
          · have := HL.out; simp only [maxLen]; omega
          · have := HL.out; omega
          · exact k4.size
          · intro v5 w5 o5 g5 n5
            have kk5 : Kept Nix w3 w5 := k4.grown g5 (fun k hk => .inr (O4.out.lt k hk).1)
            rw [← u8s_append] at o5
            have sl5 := sl_of_owns o5
            obtain ⟨ad5, cp5, rfl, _, _⟩ := owns_shape o5
            have SL5 := Lib.hid sl5
            have ta : Two w5 p a a' := kk5.heap TA.out (fun h => h)
            have tb : Two w5 q b b' := kk5.heap TB.out (fun h => h)
            have KK5 := Lib.hid kk5
            have k5 := nix_trans k3 kk5
            clear o5 g5 n5 sl5 kk5 k4 k3 O4 SM4 TA TB hcc3
            have sr5 : SrcIs (w5.alloc (.cells #[] 5)) 1 (some ⟨p, 0, none⟩) 2 2 [.int .u8 (a : Int), .int .u8 (a' : Int)] := (Two.src ta).alloc _
            have SR5 := Lib.hid sr5
            have TA := Lib.hid ta
            have TB := Lib.hid tb
            clear ta tb sr5
            go_wp2_with (at_builtin; refine wpList_app _ rfl (.tmp 31) (.tmp 32) 22 rfl w5.heap.size 5 (.int .u8 0) 1 1 Try.underlying22 info_u8 rfl (by decide) (.slice (some ⟨w5.heap.size, 0, none⟩) 0 0) 0 [] rfl ?_ _ 2 2 [.int .u8 (a : Int), .int .u8 (a' : Int)] rfl SR5.out ?_ ?_ ?_ ?_)
            · exact World.ownsRow_made w5 #[] 0 (Nat.le_refl _) (by simp [maxLen]) rfl
            · simp only [maxLen]; omega
            · omega
            · simp
            · intro v6 w6 o6 g6 n6
              have k6 : Kept Nix w5 w6 := ((Kept.refl _ w5).alloc _).grown g6 (fun k hk => .inr (by have hk' : some w5.heap.size = some k := hk; simp only [Option.some.injEq] at hk'; omega))
              have e6 : ([.int .u8 (a : Int), .int .u8 (a' : Int)] : List Value) = u8s [a, a'] := rfl
              try simp only [List.nil_append, Nat.zero_add] at o6
              rw [e6] at o6
              obtain ⟨ad6, cp6, rfl, _, _⟩ := owns_shape o6
              have O6 := Lib.hid o6
              have SM6 := Lib.hid (src_u8s (HS.out.nix (nix_trans k5 k6)))
              clear o6 g6 n6 e6
              go_wp2_with (at_builtin; refine wpList_app _ rfl (.tmp 33) (.tmp 34) 22 rfl w5.heap.size 5 (.int .u8 0) 1 1 Try.underlying22 info_u8 rfl (by decide) _ 2 _ rfl O6.out ao M.length cap (u8s M) rfl SM6.out ?_ ?_ ?_ ?_)
              · have := HL.out; simp only [maxLen]; omega
              · have := HL.out; omega
              · exact k6.size
              · intro v7 w7 o7 g7 n7
                have kk7 : Kept Nix w5 w7 := k6.grown g7 (fun k hk => .inr (O6.out.lt k hk).1)
                rw [← u8s_append] at o7
                have sl7 := sl_of_owns o7
                obtain ⟨ad7, cp7, rfl, _, _⟩ := owns_shape o7
                have SL7 := Lib.hid sl7
                have ta : Two w7 p a a' := kk7.heap TA.out (fun h => h)
                have tb : Two w7 q b b' := kk7.heap TB.out (fun h => h)
                have KK7 := Lib.hid kk7
                have k7 := nix_trans k5 kk7
                clear o7 g7 n7 sl7 kk7 k6 k5 O6 SM6 TA TB SR5
                have sr7 : SrcIs (w7.alloc (.cells #[] 5)) 1 (some ⟨q, 0, none⟩) 2 2 [.int .u8 (b : Int), .int .u8 (b' : Int)] := (Two.src tb).alloc _
                have SR7 := Lib.hid sr7
                have TA := Lib.hid ta
                have TB := Lib.hid tb
                clear ta tb sr7
                go_wp2_with (at_builtin; refine wpList_app _ rfl (.tmp 36) (.tmp 37) 22 rfl w7.heap.size 5 (.int .u8 0) 1 1 Try.underlying22 info_u8 rfl (by decide) (.slice (some ⟨w7.heap.size, 0, none⟩) 0 0) 0 [] rfl ?_ _ 2 2 [.int .u8 (b : Int), .int .u8 (b' : Int)] rfl SR7.out ?_ ?_ ?_ ?_)
                · exact World.ownsRow_made w7 #[] 0 (Nat.le_refl _) (by simp [maxLen]) rfl
                · simp only [maxLen]; omega
                · omega
                · simp
                · intro v8 w8 o8 g8 n8
                  have k8 : Kept Nix w7 w8 := ((Kept.refl _ w7).alloc _).grown g8 (fun k hk => .inr (by have hk' : some w7.heap.size = some k := hk; simp only [Option.some.injEq] at hk'; omega))
                  have e8 : ([.int .u8 (b : Int), .int .u8 (b' : Int)] : List Value) = u8s [b, b'] := rfl
                  try simp only [List.nil_append, Nat.zero_add] at o8
                  rw [e8] at o8
                  obtain ⟨ad8, cp8, rfl, _, _⟩ := owns_shape o8
                  have O8 := Lib.hid o8
                  have SM8 := Lib.hid (src_u8s (HS.out.nix (nix_trans k7 k8)))
                  clear o8 g8 n8 e8
                  go_wp2_with (at_builtin; refine wpList_app _ rfl (.tmp 38) (.tmp 39) 22 rfl w7.heap.size 5 (.int .u8 0) 1 1 Try.underlying22 info_u8 rfl (by decide) _ 2 _ rfl O8.out ao M.length cap (u8s M) rfl SM8.out ?_ ?_ ?_ ?_)
                  · have := HL.out; simp only [maxLen]; omega
                  · have := HL.out; omega
                  · exact k8.size
                  · intro v9 w9 o9 g9 n9
                    have kk9 : Kept Nix w7 w9 := k8.grown g9 (fun k hk => .inr (O8.out.lt k hk).1)
                    rw [← u8s_append] at o9
                    have sl9 := sl_of_owns o9
                    obtain ⟨ad9, cp9, rfl, _, _⟩ := owns_shape o9
                    have SL9 := Lib.hid sl9
                    have ta : Two w9 p a a' := kk9.heap TA.out (fun h => h)
                    have tb : Two w9 q b b' := kk9.heap TB.out (fun h => h)
                    have KK9 := Lib.hid kk9
                    have k9 := nix_trans k7 kk9
                    clear o9 g9 n9 sl9 kk9 k8 k7 O8 SM8 TA TB SR7
                    have hc1 := ta.cell
                    have hc2 := tb.cell
                    have B3 : Hid (Bys w9 _ ([a] ++ M)) := Lib.hid ⟨((SL3.out.nix KK5.out).nix KK7.out).nix KK9.out, fun x hx => by
                      rcases List.mem_append.1 hx with hx | hx
                      · simp at hx; omega
                      · exact HM.out x hx⟩
                    have B5 : Hid (Bys w9 _ ([b] ++ M)) := Lib.hid ⟨(SL5.out.nix KK7.out).nix KK9.out, fun x hx => by
                      rcases List.mem_append.1 hx with hx | hx
                      · simp at hx; omega
                      · exact HM.out x hx⟩
                    have B7 : Hid (Bys w9 _ ([a, a'] ++ M)) := Lib.hid ⟨SL7.out.nix KK9.out, fun x hx => by
                      rcases List.mem_append.1 hx with hx | hx
                      · simp at hx; omega
                      · exact HM.out x hx⟩
                    have B9 : Hid (Bys w9 _ ([b, b'] ++ M)) := Lib.hid ⟨SL9.out, fun x hx => by
                      rcases List.mem_append.1 hx with hx | hx
                      · simp at hx; omega
                      · exact HM.out x hx⟩
                    have q8 : ((c8 ([a] ++ M) : Int) == (c8 ([b] ++ M) : Int)) = ((a : Int) == (b : Int)) := by
                      have h := c8_once a b M ha hb
                      rw [Bool.eq_iff_iff, beq_iff_eq, beq_iff_eq]
                      omega
                    have q16 : ((c16 ([a, a'] ++ M) : Int) == (c16 ([b, b'] ++ M) : Int)) = (((a : Int) == (b : Int)) && ((a' : Int) == (b' : Int))) := by
                      have h := c16_once a a' b b' M ha ha' hb hb'
                      rw [Bool.eq_iff_iff, Bool.and_eq_true, beq_iff_eq, beq_iff_eq, beq_iff_eq]
                      omega
                    have E8 := Lib.hid (eight_in w9)
                    have E16 := Lib.hid (sixteen_in w9)
                    have HC : Hid (∀ w', Kept Nix w9 w' → w'.cell? ⟨p, 0, none⟩ = some (.int .u8 (a : Int)) ∧ w'.cell? ⟨p, 1, none⟩ = some (.int .u8 (a' : Int)) ∧ w'.cell? ⟨q, 0, none⟩ = some (.int .u8 (b : Int)) ∧ w'.cell? ⟨q, 1, none⟩ = some (.int .u8 (b' : Int))) := Lib.hid (fun w' hk => by
                      have h1 : Two w' p a a' := hk.heap ta (fun h => h)
                      have h2 : Two w' q b b' := hk.heap tb (fun h => h)
                      exact ⟨h1.cell.1, h1.cell.2, h2.cell.1, h2.cell.2⟩)
                    clear SL3 SL5 SL7 SL9 KK3 KK5 KK7 KK9 HM HS ta tb
                    generalize [a] ++ M = L1 at *
                    generalize [b] ++ M = L2 at *
                    generalize [a, a'] ++ M = L3 at *
                    generalize [b, b'] ++ M = L4 at *
                    obtain ⟨b1, hb1⟩ : ∃ t, ((a : Int) == (b : Int)) = t := ⟨_, rfl⟩
                    obtain ⟨b2, hb2⟩ : ∃ t, ((a' : Int) == (b' : Int)) = t := ⟨_, rfl⟩
                    rw [hb1] at q8
                    rw [hb1, hb2] at q16
                    have hep := fun wx => eq_pair (a : Int) (a' : Int) (b : Int) (b' : Int) wx
                    rw [hb1, hb2] at hep
                    go_wp2_with fail
                    have hz1 := hc1.1
                    have hz2 := hc1.2
                    have hz3 := hc2.1
                    have hz4 := hc2.2
                    clear hc1 hc2
                    cases b1 <;> cases b2 <;> simp only [Bool.and_true, Bool.and_false] at q16 hep
                    all_goals
                      go_region_held3 (fun w' => Kept Nix w9 w' ∧ w'.cell? ⟨p, 0, none⟩ = some (.int .u8 (a : Int)) ∧ w'.cell? ⟨p, 1, none⟩ = some (.int .u8 (a' : Int)) ∧ w'.cell? ⟨q, 0, none⟩ = some (.int .u8 (b : Int)) ∧ w'.cell? ⟨q, 1, none⟩ = some (.int .u8 (b' : Int))) (first | assumption | exact ⟨(Kept.refl _ _).drew, hz1, hz2, hz3, hz4⟩ | exact ⟨HKK.out, HC.out _ HKK.out⟩ | go_keep)
                        (first
                          | (go_at_call 15; refine (E8.out _ _ _ (by first | exact B3.out | exact B5.out) (And.left (by assumption))).mono ?_; rintro e wx ⟨rfl, kx⟩; have HKK := Lib.hid kx; clear kx)
                          | (go_at_call 16; refine (E16.out _ _ _ (by first | exact B7.out | exact B9.out) (And.left (by assumption))).mono ?_; rintro e wx ⟨rfl, kx⟩; have HKK := Lib.hid kx; clear kx))
                      all_goals
                        go_wp2_with fail
                        go_ret
                        exact ⟨rfl, nix_trans k9 (And.left (by assumption))⟩

end Go.Proofs.Ytiibnmejoccfkaa
