/- The contract of the reference's Fill. -/
import Derived.Test.YtfcidddpoofjgaaDoorRefDig
import Derived.Test.YtfcidddpoofjgaaDoorCut
namespace Go.Proofs.YtfcidddpoofjgaaDoor
open Go.RowKit Bx Md

/-- A text with its byte 128, z zeros and j bytes of its number. -/
def txtF (B : List Nat) (z j : Nat) : List Nat := B ++ 128 :: (List.replicate z 0 ++ les j (8 * B.length))
theorem txtF_length (B : List Nat) (z j : Nat) : (txtF B z j).length = B.length + 1 + z + j := by simp [txtF, les_length]; omega
theorem txtF_zero (B : List Nat) (z : Nat) : txtF B z 0 ++ [0] = txtF B (z + 1) 0 := by simp [txtF, les, List.replicate_succ']
theorem txtF_step (B : List Nat) (z j : Nat) : txtF B z j ++ [8 * B.length / 256 ^ j % 256] = txtF B z (j + 1) := by simp [txtF, les_succ]
theorem txtF_all (B : List Nat) : txtF B (zer B.length) 8 = B ++ fil B.length := rfl

def RF1 (B : List Nat) (v : Value) (w : World) (a : Act) (w' : World) : Prop :=
  a.defers = [] ∧ a.tmps.size = 34 ∧ a.tmps[0]? = some v ∧ Kept Nix w w' ∧ ∃ z vo, z ≤ zer B.length ∧ a.tmps[3]? = some vo ∧ w'.ownsRow w.heap.size 5 1 vo (B.length + 1 + z) (u8s (txtF B z 0))

def RF2 (B : List Nat) (w : World) (a : Act) (w' : World) : Prop :=
  a.defers = [] ∧ a.tmps.size = 34 ∧ Kept Nix w w' ∧ ∃ j vo, j ≤ 8 ∧ a.tmps[5]? = some (.int .i64 ((j : Nat) : Int)) ∧ a.tmps[4]? = some (.int .i64 ((8 * B.length / 256 ^ j : Nat) : Int)) ∧ a.tmps[3]? = some vo ∧
    w'.ownsRow w.heap.size 5 1 vo (B.length + 1 + zer B.length + j) (u8s (txtF B (zer B.length) j))

def RFPost (B : List Nat) (w : World) (e : Ending) (w' : World) : Prop :=
  ∃ v, e = .returned v ∧ w'.ownsRow w.heap.size 5 1 v (B ++ fil B.length).length (u8s (B ++ fil B.length)) ∧ Kept Nix w w'

set_option maxHeartbeats 1000000 in
theorem rfill_any (v : Value) (B : List Nat) (w : World) (hs : Sl w v (u8s B)) (hl : B.length < 1000000) : Calls Tryd.prog 16 #[v] w (RFPost B w) := by
  have HS := Lib.hid hs
  have HL := Lib.hid hl
  obtain ⟨ao, cap, rfl⟩ := hs.shape
  have HZ : Hid (zer B.length < 64) := Lib.hid (Nat.mod_lt _ (by decide))
  clear hs hl
  have Q1 := Lib.hid (src_u8s HS.out)
  go_enter Tryd.func16, Tryd.ntmps16
  go_upto_region 1 with fail
  go_wp2_with (at_builtin; refine wpList_app _ rfl (.tmp 6) (.tmp 7) 22 rfl w.heap.size 5 (.int .u8 0) 1 1 Tryd.underlying22 info_u8 rfl (by decide) (.slice (some ⟨w.heap.size, 0, none⟩) 0 0) 0 [] rfl ?_ ao B.length cap (u8s B) rfl ?_ ?_ ?_ ?_ ?_)
  · exact World.ownsRow_made w #[] 0 (Nat.le_refl _) (by simp [maxLen]) rfl
  · exact Q1.out.alloc _
  · have := HL.out; simp only [maxLen]; omega
  · have := HL.out; omega
  · simp
  · intro v1 w1 o1 g1 _
    have k1 := kept_new g1
    have o1 : w1.ownsRow w.heap.size 5 1 v1 B.length (u8s B) := by simpa using o1
    have O1 := Lib.hid o1
    have K1 := Lib.hid k1
    obtain ⟨a1, c1, rfl, _, _⟩ := owns_shape o1
    clear o1 g1 k1 Q1
    go_wp2_with (at_builtin; refine wpList_app _ rfl (.tmp 8) (.tmp 9) 22 rfl w.heap.size 5 (.int .u8 0) 1 1 Tryd.underlying22 info_u8 rfl (by decide) _ B.length (u8s B) rfl (O1.out.alloc _) _ 1 1 _ rfl (src_one w1 _ _ rfl) ?_ ?_ ?_ ?_)
    · have := HL.out; simp only [maxLen]; omega
    · have := HL.out; omega
    · show w.heap.size ≤ (w1.alloc _).heap.size
      have := K1.out.size
      simp; omega
    · intro v2 w2 o2 g2 _
      have k2 : Kept Nix w w2 := (K1.out.alloc _).grown g2 (fun k hk => .inr (O1.out.lt k hk).1)
      have o2 : w2.ownsRow w.heap.size 5 1 v2 (B.length + 1 + 0) (u8s (txtF B 0 0)) := by
        have e : u8s (txtF B 0 0) = u8s B ++ [.int .u8 128] := by simp [txtF, les, u8s]
        rw [e]; exact o2
      have O2 := Lib.hid o2
      have K2 := Lib.hid k2
      obtain ⟨a2, c2, rfl, _, _⟩ := owns_shape o2
      clear o2 g2 k2 O1 K1
      go_wp2_with fail
      refine wp_loop (RF1 B (.slice ao B.length cap) w) (fun a _ => B.length + 100 - slen (a.tmps.getD 3 undef)) ?_ ?_
      · exact ⟨rfl, rfl, rfl, K2.out, 0, _, Nat.zero_le _, rfl, O2.out⟩
      · clear O2 K2
        rintro ⟨tm, df⟩ w3 ⟨rfl, hs, h0, k3, z, vo, hz, h3, o3⟩
        simp only at hs h0 h3
        obtain ⟨f, hf, hg⟩ := fr_open hs
        have e0 := hg _ _ h0
        have e3 := hg _ _ h3
        simp only [List.range, List.range.loop, List.map] at hf
        rw [e0, e3] at hf
        clear e0 e3 hg hs h0 h3
        subst hf
        have O3 := Lib.hid o3
        have K3 := Lib.hid k3
        obtain ⟨a3, c3, rfl, _, _⟩ := owns_shape o3
        clear o3 k3
        by_cases hlt : z < zer B.length
        · have hne : (((B.length + 1 + z : Nat) : Int) % 64 == 56) = false := by
            have h1 := hlt
            unfold zer at h1
            simp
            omega
          have HLT := Lib.hid hlt
          clear hlt hz
          have O3 := Lib.hid O3.out
          generalize hm : B.length + 1 + z = m at *
          have HM := Lib.hid hm
          clear hm
          go_wp2_with (at_builtin; refine wpList_app _ rfl (.tmp 15) (.tmp 16) 22 rfl w.heap.size 5 (.int .u8 0) 1 1 Tryd.underlying22 info_u8 rfl (by decide) _ m _ rfl (O3.out.alloc _) _ 1 1 _ rfl (src_one w3 _ _ rfl) ?_ ?_ ?_ ?_)
          · have h1 := HL.out; have h2 := HLT.out; have h3 := HZ.out; have h4 := HM.out; simp only [maxLen]; omega
          · have h1 := HL.out; have h2 := HLT.out; have h3 := HZ.out; have h4 := HM.out; omega
          · show w.heap.size ≤ (w3.alloc _).heap.size
            have := K3.out.size
            simp; omega
          · intro v4 w4 o4 g4 _
            have k4 : Kept Nix w w4 := (K3.out.alloc _).grown g4 (fun k hk => .inr (O3.out.lt k hk).1)
            have o4 : w4.ownsRow w.heap.size 5 1 v4 (B.length + 1 + (z + 1)) (u8s (txtF B (z + 1) 0)) := by
              rw [← txtF_zero, u8s_append, show B.length + 1 + (z + 1) = m + 1 by rw [← HM.out]; omega]; exact o4
            have O4 := Lib.hid o4
            obtain ⟨a4, c4, rfl, _, _⟩ := owns_shape o4
            clear o4 g4
            go_wp2_with fail
            refine ⟨⟨rfl, rfl, rfl, k4, z + 1, _, HLT.out, rfl, O4.out⟩, ?_⟩
            show B.length + 100 - (B.length + 1 + (z + 1)) < B.length + 100 - m
            have h2 := HLT.out; have h3 := HZ.out; have h4 := HM.out
            omega
        · have e : z = zer B.length := by omega
          subst e
          have hne : (((B.length + 1 + zer B.length : Nat) : Int) % 64 == 56) = true := by
            unfold zer
            simp
            omega
          clear hlt hz
          have h8 : (8 : Int) * (B.length : Int) = ((8 * B.length : Nat) : Int) := by omega
          have h8w : wrap64 ((8 * B.length : Nat) : Int) = ((8 * B.length : Nat) : Int) := by have := HL.out; unfold wrap64; omega
          have O3 := Lib.hid O3.out
          generalize hm : B.length + 1 + zer B.length = m at *
          have HM := Lib.hid hm
          clear hm
          generalize hb8 : 8 * B.length = b8 at *
          have HB8 := Lib.hid hb8
          clear hb8
          go_wp2_with fail
          refine wp_loop (RF2 B w) (fun a _ => 8 - (intOf (a.tmps.getD 5 undef)).toNat) ?_ ?_
          · refine ⟨rfl, rfl, K3.out, 0, _, Nat.zero_le _, rfl, ?_, rfl, ?_⟩
            · rw [Nat.pow_zero, Nat.div_one, HB8.out]
              first | rfl | exact congrArg (fun z => some (Value.int .i64 z)) h8w
            · rw [Nat.add_zero, HM.out]; exact O3.out
          · clear h8 h8w hne O3 K3
            rintro ⟨tm, df⟩ w5 ⟨rfl, hs, k5, j, vo, hj, h5, h4, h3, o5⟩
            simp only at hs h5 h4 h3
            obtain ⟨g, hf, hg⟩ := fr_open hs
            have e3 := hg _ _ h3
            have e4 := hg _ _ h4
            have e5 := hg _ _ h5
            simp only [List.range, List.range.loop, List.map] at hf
            rw [e3, e4, e5] at hf
            clear e3 e4 e5 hg hs h3 h4 h5
            subst hf
            have O5 := Lib.hid o5
            have K5 := Lib.hid k5
            obtain ⟨a5, c5, rfl, _, _⟩ := owns_shape o5
            clear o5 k5
            by_cases hlt : j < 8
            · have hj8 : (j : Int) < 8 := by omega
              have HJ := Lib.hid hlt
              have HSTEP := Lib.hid (txtF_step B (zer B.length) j)
              have HQ : Hid (8 * B.length / 256 ^ (j + 1) = 8 * B.length / 256 ^ j / 256) := Lib.hid (by rw [Nat.pow_succ, Nat.div_div_eq_div_mul])
              have HBD : Hid (8 * B.length / 256 ^ j < 8000000) := Lib.hid (Nat.lt_of_le_of_lt (Nat.div_le_self _ _) (by have := HL.out; omega))
              have HMM : Hid (B.length + 1 + zer B.length + j ≤ 1000072) := Lib.hid (by have h1 := HL.out; have h3 := HZ.out; omega)
              clear hlt hj
              have O5 := Lib.hid O5.out
              generalize 8 * B.length / 256 ^ j = lf at *
              have hx : (lf : Int) / 256 = ((lf / 256 : Nat) : Int) := by omega
              have hy : (lf : Int) % 256 = ((lf % 256 : Nat) : Int) := by omega
              have HR : Hid (lf % 256 < 256) := Lib.hid (Nat.mod_lt _ (by decide))
              have HXW : Hid (wrap64 ((lf / 256 : Nat) : Int) = ((lf / 256 : Nat) : Int)) := Lib.hid (by have := HBD.out; unfold wrap64; omega)
              generalize lf / 256 = lq at *
              generalize lf % 256 = lr at *
              generalize hmm : B.length + 1 + zer B.length + j = mm at *
              have HMJ := Lib.hid hmm
              clear hmm
              go_wp2_with (at_builtin; refine wpList_app _ rfl (.tmp 25) (.tmp 29) 22 rfl w.heap.size 5 (.int .u8 0) 1 1 Tryd.underlying22 info_u8 rfl (by decide) _ mm _ rfl (O5.out.alloc _) _ 1 1 _ rfl (src_one w5 _ _ rfl) ?_ ?_ ?_ ?_)
              · have := HMM.out; simp only [maxLen]; omega
              · have := HMM.out; omega
              · show w.heap.size ≤ (w5.alloc _).heap.size
                have := K5.out.size
                simp; omega
              · intro v6 w6 o6 g6 _
                have k6 : Kept Nix w w6 := (K5.out.alloc _).grown g6 (fun k hk => .inr (O5.out.lt k hk).1)
                have o6 : w6.ownsRow w.heap.size 5 1 v6 (B.length + 1 + zer B.length + (j + 1)) (u8s (txtF B (zer B.length) (j + 1))) := by
                  rw [← HSTEP.out, u8s_append, show B.length + 1 + zer B.length + (j + 1) = mm + 1 by rw [← HMJ.out]; omega]; exact o6
                have O6 := Lib.hid o6
                have K6 := Lib.hid k6
                obtain ⟨a6, c6, rfl, _, _⟩ := owns_shape o6
                clear o6 g6 k6
                go_wp2_with fail
                refine ⟨⟨rfl, rfl, K6.out, j + 1, _, HJ.out, rfl, ?_, rfl, O6.out⟩, ?_⟩
                · rw [HQ.out]
                  first | rfl | exact congrArg (fun z => some (Value.int .i64 z)) HXW.out
                · have := HJ.out
                  simp [intOf]; omega
            · have e : j = 8 := by omega
              subst e
              have el : B.length + 1 + zer B.length + 8 = (B ++ fil B.length).length := by rw [← txtF_all, txtF_length]
              have HE := Lib.hid el
              clear el hlt hj
              go_wp2
              go_ret
              exact ⟨_, rfl, by rw [← HE.out, ← txtF_all]; exact O5.out, K5.out⟩

end Go.Proofs.YtfcidddpoofjgaaDoor
