/- The walk of ChecksSums. -/
import Derived.Test.YtiibnmejoccfkaaLParts
import Derived.Test.YtiibnmejoccfkaaCut
namespace Go.Proofs.Ytiibnmejoccfkaa
open Go.RowKit Bx Crc

/-- Bytes in memory. -/
def Bys (w : World) (v : Value) (B : List Nat) : Prop := Sl w v (u8s B) ∧ ∀ b ∈ B, b < 256

theorem eight_in (w0 : World) (v : Value) (B : List Nat) (w : World) (h : Bys w0 v B) (k : Kept Nix w0 w) : Calls Try.prog 15 #[v] w fun e w' => e = .returned (.int .u8 ((c8 B : Nat) : Int)) ∧ Kept Nix w0 w' :=
  (eight_any v B w (h.1.nix k) h.2).mono fun _ _ ⟨h1, h2⟩ => ⟨h1, nix_trans k h2⟩
theorem sixteen_in (w0 : World) (v : Value) (B : List Nat) (w : World) (h : Bys w0 v B) (k : Kept Nix w0 w) : Calls Try.prog 16 #[v] w fun e w' => e = .returned (.int .u16 ((c16 B : Nat) : Int)) ∧ Kept Nix w0 w' :=
  (sixteen_any v B w (h.1.nix k) h.2).mono fun _ _ ⟨h1, h2⟩ => ⟨h1, nix_trans k h2⟩

def SumsInv (w : World) (base : Nat) (va vb vx : Value) (z : Nat) (A X : List Nat) (a : Act) (w' : World) : Prop :=
  a.defers = [] ∧ a.tmps.size = 90 ∧ a.tmps[0]? = some va ∧ a.tmps[1]? = some vb ∧ a.tmps[2]? = some (.int .u8 (z : Int)) ∧ a.tmps[7]? = some (.bool true) ∧ a.tmps[8]? = some (.int .i64 (A.length : Int)) ∧ a.tmps[9]? = some vx ∧
    Kept Nix w w' ∧ ∃ i, i ≤ A.length ∧ a.tmps[10]? = some (.int .i64 ((i : Nat) : Int)) ∧ w'.ownsRow base 5 1 vx A.length (u8s (part A X i))

set_option maxHeartbeats 2000000 in
theorem walk_ChecksSums (w : World) (va : Value) (za : List Int) (sa : Sl w va (za.map (Value.int .u8))) (hza : ∀ n ∈ za, (Lit.int .u8 n).wf = true)
    (vb : Value) (zb : List Int) (sb : Sl w vb (zb.map (Value.int .u8))) (hzb : ∀ n ∈ zb, (Lit.int .u8 n).wf = true) (a1 : Int) (h1 : (Lit.int .u8 a1).wf = true) :
    Calls Try.prog 7 #[va, vb, .int .u8 a1] w fun e w' => e = .returned (.bool true) ∧ Kept Nix w w' := by
  have HA := Lib.hid (awake_any w)
  obtain ⟨A, hsa, hA, -⟩ := sa.nats hza
  obtain ⟨B, hsb, hB, -⟩ := sb.nats hzb
  obtain ⟨z, rfl, hz⟩ := nat_u8 h1
  clear sa sb hza hzb h1
  obtain ⟨aa, ca, rfl⟩ := hsa.shape
  obtain ⟨ab, cb, rfl⟩ := hsb.shape
  have HSA := Lib.hid hsa
  have HSB := Lib.hid hsb
  have HAB := Lib.hid hA
  have HBB := Lib.hid hB
  clear hsa hsb hA hB
  by_cases hlen : 200 < (A.length : Int)
  · go_enter Try.func7, Try.ntmps7
    go_wp2_with fail
    refine HA.out.mono ?_
    rintro e w1 ⟨rfl, k1⟩
    go_wp2_with fail
    go_ret
    exact ⟨rfl, k1⟩
  · have hl2 : decide (200 < (A.length : Int)) = false := by simpa using hlen
    have HL : Hid (A.length ≤ 200) := Lib.hid (by omega)
    clear hlen
    by_cases hlen : B.length < A.length
    · go_enter Try.func7, Try.ntmps7
      go_wp2_with fail
      refine HA.out.mono ?_
      rintro e w1 ⟨rfl, k1⟩
      go_wp2_with fail
      go_ret
      exact ⟨rfl, k1⟩
    · have hl3 : decide (B.length < A.length) = false := by simpa using hlen
      have HL3 : Hid (A.length ≤ B.length) := Lib.hid (by omega)
      clear hlen
      go_enter Try.func7, Try.ntmps7
      go_wp2_with fail
      refine HA.out.mono ?_
      rintro e w1 ⟨rfl, k1⟩
      have S1 := Lib.hid (src_u8s (HSA.out.nix k1))
      go_wp2_with (at_builtin; refine wpList_app _ rfl (.tmp 26) (.tmp 27) 22 rfl w1.heap.size 5 (.int .u8 0) 1 1 Try.underlying22 info_u8 rfl (by decide) (.slice (some ⟨w1.heap.size, 0, none⟩) 0 0) 0 [] rfl ?_ aa A.length ca (u8s A) rfl ?_ ?_ ?_ ?_ ?_)
      · exact World.ownsRow_made w1 #[] 0 (Nat.le_refl _) (by simp [maxLen]) rfl
      · exact S1.out.alloc _
      · have := HL.out; simp only [maxLen]; omega
      · have := HL.out; omega
      · simp
      · intro v2 w2 o2 g2 n2
        have k2 := nix_trans k1 (kept_new g2)
        obtain ⟨a2, c2, rfl, _, _⟩ := owns_shape o2
        have O2 := Lib.hid o2
        have hX : (List.zipWith (· ^^^ ·) A (B.take A.length)).length = A.length := by have := HL3.out; simp; omega
        have hXl := zip_lt A (B.take A.length) HAB.out (fun b hb => HBB.out b (List.mem_of_mem_take hb))
        have hXg : ∀ i, i < A.length → (List.zipWith (· ^^^ ·) A (B.take A.length)).getD i 0 = A.getD i 0 ^^^ B.getD i 0 := by
          intro i hi
          have := HL3.out
          have h1 : i < (List.zipWith (· ^^^ ·) A (B.take A.length)).length := by omega
          rw [List.getD_eq_getElem?_getD, List.getElem?_eq_getElem h1]
          simp [hi, show i < B.length by omega]
        have hc8 := crc_bytes_xor 8 7 A (B.take A.length) (by have := HL3.out; simp; omega)
        have hc16 := crc_bytes_xor 16 32773 A (B.take A.length) (by have := HL3.out; simp; omega)
        generalize List.zipWith (· ^^^ ·) A (B.take A.length) = X at *
        have HX := Lib.hid hX
        have HXL := Lib.hid hXl
        have HXG := Lib.hid hXg
        have HC8 := Lib.hid hc8
        have HC16 := Lib.hid hc16
        have hb1 := Lib.hid k1.size
        clear o2 g2 n2 S1 hX hXl hXg hc8 hc16 k1 HA
        go_wp2_with fail
        refine wp_loop (SumsInv w w1.heap.size (.slice aa A.length ca) (.slice ab B.length cb) (.slice a2 A.length c2) z A X) (fun a _ => A.length - (intOf (a.tmps.getD 10 undef)).toNat) ?_ ?_
        · refine ⟨rfl, rfl, rfl, rfl, rfl, rfl, rfl, rfl, k2, 0, Nat.zero_le _, rfl, ?_⟩
          exact O2.out
        · clear O2 k2
          rintro ⟨tm, df⟩ w3 ⟨rfl, hs, h0, h1, h2, h7, h8, h9, k3, i, hi, h10, o3⟩
          simp only at hs h0 h1 h2 h7 h8 h9 h10
          obtain ⟨f, hf, hg⟩ := fr_open hs
          have e0 := hg _ _ h0
          have e1 := hg _ _ h1
          have e2 := hg _ _ h2
          have e7 := hg _ _ h7
          have e8 := hg _ _ h8
          have e9 := hg _ _ h9
          have e10 := hg _ _ h10
          simp only [List.range, List.range.loop, List.map] at hf
          rw [e0, e1, e2, e7, e8, e9, e10] at hf
          clear e0 e1 e2 e7 e8 e9 e10 hg hs h0 h1 h2 h7 h8 h9 h10
          subst hf
          by_cases hlt : i < A.length
          · have hi1 : (i : Int) < (A.length : Int) := by omega
            have hi2 : (i : Int) < (B.length : Int) := by have := HL3.out; omega
            have hi3 : (i : Int) < 200 := by have := HL.out; omega
            obtain ⟨ba, offa, ca', ea, _, _, hca⟩ := (HSA.out.nix k3).cells (by omega)
            obtain ⟨bb, offb, cb', eb, _, _, hcb⟩ := (HSB.out.nix k3).cells (by omega)
            simp only [Value.slice.injEq] at ea eb
            obtain ⟨rfl, _, rfl⟩ := ea
            obtain ⟨rfl, _, rfl⟩ := eb
            have hda := hca i hlt
            have hdb := hcb i (by omega)
            obtain ⟨g, gc, eg, hg1, hg2, hg3, hg4⟩ := owns_pos o3 (by omega)
            simp only [Value.slice.injEq] at eg
            obtain ⟨rfl, _, rfl⟩ := eg
            have hdx := o3.cellAt i (by omega)
            have hfz := o3.frozenAt i
            have hst := fun u => (o3.stored i u).1
            have hxg := HXG.out i hlt
            have hxa := getD_lt A i HAB.out
            have hxb := getD_lt B i HBB.out
            have hset := part_set A X i HX.out hlt
            rw [u8s_get _ _ (by rw [part_length A X i HX.out hi]; exact hlt)] at hdx
            have HXE := Lib.hid (show bits .xor .u8 ((A.getD i 0 : Nat) : Int) ((B.getD i 0 : Nat) : Int) = ((X.getD i 0 : Nat) : Int) by rw [u8_xor_nat _ _ hxa hxb, hxg])
            have HSET : Hid ((u8s (part A X i)).set i (.int .u8 ((X.getD i 0 : Nat) : Int)) = u8s (part A X (i + 1))) := Lib.hid (by rw [← hset]; simp [u8s])
            have HST := Lib.hid hst
            clear hca hcb hst hxg hset o3
            generalize A.getD i 0 = xa at *
            generalize B.getD i 0 = xb at *
            generalize X.getD i 0 = xx at *
            generalize (part A X i).getD i 0 = xo at *
            go_wp2_with fail
            go_still_tail 12, (by kernel_rfl)
            change wpList _ _ _ _ _ w3.drew
            rw [HXE.out]
            go_wp2_with fail
            refine ⟨⟨rfl, rfl, rfl, rfl, rfl, rfl, rfl, rfl, (k3.setCell (.inr ?_) _).drew, i + 1, hlt, rfl, ?_⟩, ?_⟩
            · have := hb1.out; show w.heap.size ≤ g; omega
            · have h := HST.out (.int .u8 (xx : Int))
              rw [HSET.out] at h
              exact (Kept.refl Nix _).drew.owns h (fun _ _ h => h)
            · simp [intOf]; omega
          · have e : i = A.length := by omega
            subst e
            have hl5 : decide (A.length < A.length) = false := by simp
            have ep : part A X A.length = X := by unfold part; rw [List.drop_length, List.append_nil, ← HX.out, List.take_length]
            rw [ep] at o3
            obtain ⟨ib, hib, hz0, hz1, hz2⟩ := info_parts info_u8
            have S3 := Lib.hid (src_u8s (HSA.out.nix k3))
            have O3 := Lib.hid o3
            clear ep o3 hlt hi
            go_wp2_with (at_make; refine wpList_make_full _ rfl (.tmp 47) (.tmp 47) 22 rfl w3.heap.size 5 ib (.int .u8 0) 1 Try.underlying22 hib hz0 hz1 _ _ _ _ z rfl rfl rfl rfl ?_ ?_ ?_ ?_)
            · rw [hz2]; omega
            · simp only [maxLen]; omega
            · exact Nat.le_refl _
            · intro w4 o4 g4
              rw [toList_madeCells_one] at o4
              have k4 : Kept Nix w3 w4 := (Kept.refl _ w3).grown g4 (fun k hk => by simp at hk)
              have O4 := Lib.hid o4
              have S4 := Lib.hid (src_u8s (HSA.out.nix (nix_trans k3 k4)))
              clear o4 g4 hz0 hz1 hz2 hib S3
              go_wp2_with (at_builtin; refine wpList_app _ rfl (.tmp 48) (.tmp 49) 22 rfl w3.heap.size 5 (.int .u8 0) 1 1 Try.underlying22 info_u8 rfl (by decide) _ z _ rfl O4.out aa A.length ca (u8s A) rfl S4.out ?_ ?_ ?_ ?_)
              · have := HL.out; simp only [maxLen]; omega
              · have := HL.out; omega
              · exact k4.size
              · intro v5 w5 o5 g5 n5
                have k5 : Kept Nix w3 w5 := k4.grown g5 (fun k hk => .inr (O4.out.lt k hk).1)
                have e5 : List.replicate z (Value.int .u8 0) ++ u8s A = u8s (List.replicate z 0 ++ A) := by simp [u8s]
                rw [e5] at o5
                have s5 := sl_of_owns o5
                have sx := (sl_of_owns O3.out).nix k5
                have s5a := HSA.out.nix (nix_trans k3 k5)
                have s5b := (HSB.out.nix (nix_trans k3 k5)).take A.length HL3.out
                rw [u8s_take] at s5b
                obtain ⟨a5, c5, rfl, _, _⟩ := owns_shape o5
                have hcap := (HSB.out.nix (nix_trans k3 k5)).cap
                have BX : Hid (Bys w5 _ X) := Lib.hid ⟨sx, HXL.out⟩
                have BA : Hid (Bys w5 _ A) := Lib.hid ⟨s5a, HAB.out⟩
                have BB : Hid (Bys w5 _ (B.take A.length)) := Lib.hid ⟨s5b, fun b hb => HBB.out b (List.mem_of_mem_take hb)⟩
                have BZ : Hid (Bys w5 _ (List.replicate z 0 ++ A)) := Lib.hid ⟨s5, fun b hb => by
                  rcases List.mem_append.1 hb with hb | hb
                  · have := List.eq_of_mem_replicate hb; omega
                  · exact HAB.out b hb⟩
                have hq1 : ((c8 X : Int) == bits .xor .u8 (c8 A : Int) (c8 (B.take A.length) : Int)) = true := by
                  rw [u8_xor_nat _ _ (c8_lt _) (c8_lt _), beq_iff_eq]
                  exact congrArg (fun n : Nat => (n : Int)) HC8.out
                have hq2 : ((c16 X : Int) == bits .xor .u16 (c16 A : Int) (c16 (B.take A.length) : Int)) = true := by
                  rw [u16_xor_nat _ _ (c16_lt _) (c16_lt _), beq_iff_eq]
                  exact congrArg (fun n : Nat => (n : Int)) HC16.out
                have hq3 : ((c8 (List.replicate z 0 ++ A) : Int) == (c8 A : Int)) = true := by rw [show c8 (List.replicate z 0 ++ A) = c8 A from crc_behind_zeros 8 7 z A]; simp
                have hq4 : ((c16 (List.replicate z 0 ++ A) : Int) == (c16 A : Int)) = true := by rw [show c16 (List.replicate z 0 ++ A) = c16 A from crc_behind_zeros 16 32773 z A]; simp
                have j1 : (A.length : Int) ≤ (cb : Int) := by have := HL3.out; omega
                have k0 := nix_trans k3 k5
                have E8 := Lib.hid (eight_in w5)
                have E16 := Lib.hid (sixteen_in w5)
                have HK0 := Lib.hid k0
                clear k0 k3 k4 k5 o5 g5 n5 e5 s5 sx s5a s5b hcap O3 O4 S4 HSA HSB HXG HC8 HC16 HX HXL HAB HBB
                go_wp2_with fail
                go_region_held3 (fun w' => Kept Nix w5 w') (first | assumption | exact (Kept.refl _ _).drew | exact HKK.out)
                  (first
                    | (go_at_call 15; refine (E8.out _ _ _ (by first | exact BX.out | exact BA.out | exact BB.out | exact BZ.out) (by assumption)).mono ?_; rintro e wx ⟨rfl, kx⟩; have HKK := Lib.hid kx; clear kx)
                    | (go_at_call 16; refine (E16.out _ _ _ (by first | exact BX.out | exact BA.out | exact BB.out | exact BZ.out) (by assumption)).mono ?_; rintro e wx ⟨rfl, kx⟩; have HKK := Lib.hid kx; clear kx))
                all_goals
                  go_wp2_with fail
                  go_ret
                  exact ⟨rfl, nix_trans HK0.out (by assumption)⟩
end Go.Proofs.Ytiibnmejoccfkaa
