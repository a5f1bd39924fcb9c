/- The walk of DigestApart. -/
import Derived.Test.YtfcidddpoofjgaaDoorDigEq
import Derived.Test.YtfcidddpoofjgaaDoorArgs
import Derived.Deep.RegionHeld3
import Derived.Deep.MidRow
namespace Go.Proofs.YtfcidddpoofjgaaDoor
open Go.RowKit Bx Md

/-- A digest, laid into a new block. -/
theorem put_dig (w : World) (M : Array Value) : ((w.alloc (.cells #[.int .u8 0, .int .u8 0, .int .u8 0, .int .u8 0, .int .u8 0, .int .u8 0, .int .u8 0, .int .u8 0, .int .u8 0, .int .u8 0, .int .u8 0, .int .u8 0, .int .u8 0, .int .u8 0, .int .u8 0, .int .u8 0] 24)).setRow w.heap.size M).heap[w.heap.size]? = some (.cells M 24 (0, 0)) ∧ Kept Nix w ((w.alloc (.cells #[.int .u8 0, .int .u8 0, .int .u8 0, .int .u8 0, .int .u8 0, .int .u8 0, .int .u8 0, .int .u8 0, .int .u8 0, .int .u8 0, .int .u8 0, .int .u8 0, .int .u8 0, .int .u8 0, .int .u8 0, .int .u8 0] 24)).setRow w.heap.size M) :=
  ⟨heap_row _ (heap_alloc_new w _), ((Kept.refl Nix w).alloc _).setRow (.inr (Nat.le_refl _)) _⟩

set_option maxHeartbeats 2000000 in
theorem walk_DigestApart (w : World) (hT : Tab w) (va : Value) (za : List Int) (sa : Sl w va (za.map (Value.int .u8))) (hza : ∀ n ∈ za, (Lit.int .u8 n).wf = true)
    (vb : Value) (zb : List Int) (sb : Sl w vb (zb.map (Value.int .u8))) (hzb : ∀ n ∈ zb, (Lit.int .u8 n).wf = true) (vc : Value) (zc : List Int) (sc : Sl w vc (zc.map (Value.int .u8))) (hzc : ∀ n ∈ zc, (Lit.int .u8 n).wf = true) :
    Calls Tryd.prog 5 #[va, vb, vc] w fun e w' => e = .returned (.bool true) ∧ Kept Nix w w' := by
  have HA := Lib.hid (awake_any w hT)
  have HT := Lib.hid hT
  obtain ⟨A, hsa, hA, -⟩ := sa.nats hza
  obtain ⟨B, hsb, hB, -⟩ := sb.nats hzb
  obtain ⟨C, hsc, hC, -⟩ := sc.nats hzc
  clear sa sb sc hza hzb hzc hT
  obtain ⟨aa, ca, rfl⟩ := hsa.shape
  obtain ⟨ab, cb, rfl⟩ := hsb.shape
  obtain ⟨ac, cc, rfl⟩ := hsc.shape
  have HSA := Lib.hid hsa
  have HSB := Lib.hid hsb
  have HSC := Lib.hid hsc
  have HBA := Lib.hid hA
  have HBB := Lib.hid hB
  have HBC := Lib.hid hC
  clear hsa hsb hsc hA hB hC
  by_cases ha : 100 < (A.length : Int)
  · go_enter Tryd.func5, Tryd.ntmps5
    go_wp2_with fail
    refine HA.out.mono ?_
    rintro e w1 ⟨rfl, k1⟩
    go_wp2_with fail
    go_ret
    exact ⟨rfl, k1⟩
  have hx : decide (100 < (A.length : Int)) = false := by simpa using ha
  by_cases hb : 100 < (B.length : Int)
  · clear ha
    go_enter Tryd.func5, Tryd.ntmps5
    go_wp2_with fail
    refine HA.out.mono ?_
    rintro e w1 ⟨rfl, k1⟩
    go_wp2_with fail
    go_ret
    exact ⟨rfl, k1⟩
  have hy : decide (100 < (B.length : Int)) = false := by simpa using hb
  by_cases hc : 100 < (C.length : Int)
  · clear ha hb
    go_enter Tryd.func5, Tryd.ntmps5
    go_wp2_with fail
    refine HA.out.mono ?_
    rintro e w1 ⟨rfl, k1⟩
    go_wp2_with fail
    go_ret
    exact ⟨rfl, k1⟩
  · have hz : decide (100 < (C.length : Int)) = false := by simpa using hc
    have HL : Hid (A.length ≤ 100 ∧ B.length ≤ 100 ∧ C.length ≤ 100) := Lib.hid (by omega)
    clear ha hb hc
    go_enter Tryd.func5, Tryd.ntmps5
    go_wp2_with fail
    refine HA.out.mono ?_
    rintro e w1 ⟨rfl, k1⟩
    have H1 := Lib.hid (new_any w1)
    have K1 := Lib.hid k1
    clear k1
    go_wp2_with fail
    refine H1.out.mono ?_
    rintro e w2 ⟨rfl, st2, k2⟩
    have H2 := Lib.hid (new_any w2)
    have K2 := Lib.hid (nix_trans K1.out k2)
    have ST2 := Lib.hid st2
    have HP1 : Hid (w.heap.size ≤ w1.heap.size ∧ w1.heap.size ≠ 0 ∧ w1.heap.size < w2.heap.size) := Lib.hid ⟨K1.out.size, by have h1 := K1.out.size; have h2 := HT.out.pos; omega, st2.lt⟩
    clear st2 k2
    generalize hs1 : w1.heap.size = p at *
    clear hs1
    go_wp2_with fail
    refine H2.out.mono ?_
    rintro e w3 ⟨rfl, st3, k3⟩
    have K3 := Lib.hid (nix_trans K2.out k3)
    have S3 := Lib.hid (ST2.out.nix k3)
    have HP2 : Hid (w.heap.size ≤ w2.heap.size ∧ w2.heap.size ≠ 0 ∧ p ≠ w2.heap.size) := Lib.hid ⟨K2.out.size, by have := HP1.out; omega, by have := HP1.out; omega⟩
    have T3 := Lib.hid st3
    have A1 := Lib.hid (add_any p _ [] A w3 S3.out (HSA.out.nix K3.out) HBA.out (HSA.out.apart HP1.out.1) HP1.out.2.1 (HT.out.nix K3.out) (by have := HL.out; simp; omega))
    clear st3 k3
    generalize hs2 : w2.heap.size = r at *
    clear hs2
    go_wp2_with fail
    refine A1.out.mono ?_
    rintro e w4 ⟨rfl, st4, k4⟩
    rw [List.nil_append] at st4
    have K4 : Hid (Kept Nix w w4) := Lib.hid (nix_put K3.out k4 (fun j hj => by rw [show j = p from hj]; exact HP1.out.1))
    have T4 := Lib.hid (T3.out.kept k4 (fun h => HP2.out.2.2 (show r = p from h).symm))
    have S4 := Lib.hid st4
    have A2 := Lib.hid (add_any r _ [] B w4 T4.out (HSB.out.nix K4.out) HBB.out (HSB.out.apart HP2.out.1) HP2.out.2.1 (HT.out.nix K4.out) (by have := HL.out; simp; omega))
    clear st4 k4 A1
    go_wp2_with fail
    refine A2.out.mono ?_
    rintro e w5 ⟨rfl, st5, k5⟩
    rw [List.nil_append] at st5
    have K5 : Hid (Kept Nix w w5) := Lib.hid (nix_put K4.out k5 (fun j hj => by rw [show j = r from hj]; exact HP2.out.1))
    have S5 := Lib.hid (S4.out.kept k5 (fun h => HP2.out.2.2 h))
    have T5 := Lib.hid st5
    have SM1 := Lib.hid (sum_any r B w5 T5.out (HT.out.nix K5.out) (by have := HL.out; omega))
    have zt : (u8s (md B)).toArray.size = 16 := by simp [u8s, md_length]
    have ZS := Lib.hid (size_sum.trans (congrArg some zt.symm))
    have ZT := Lib.hid zt
    have Z1 : Hid ((u8s (md B)).toArray.all (·.oneCell') = true) := Lib.hid (all_one (u8s_one _))
    clear st5 k5 A2 zt
    go_wp2_with fail
    refine SM1.out.mono ?_
    rintro e w6 ⟨rfl, k6⟩
    have K6 := Lib.hid (nix_trans K5.out k6)
    have S6 := Lib.hid (S5.out.nix k6)
    have T6 := Lib.hid (T5.out.nix k6)
    clear k6 SM1
    go_upto_region 11 with (first | (refine wpList_store_row rfl 24 _ _ rfl _ _ rfl rfl 24 _ (heap_alloc_new w6 _) ZS.out (by rw [ZT.out]; rfl) Z1.out ?_))
    obtain ⟨h7, k7⟩ := put_dig w6 (u8s (md B)).toArray
    generalize (w6.alloc (.cells #[.int .u8 0, .int .u8 0, .int .u8 0, .int .u8 0, .int .u8 0, .int .u8 0, .int .u8 0, .int .u8 0, .int .u8 0, .int .u8 0, .int .u8 0, .int .u8 0, .int .u8 0, .int .u8 0, .int .u8 0, .int .u8 0] 24)).setRow w6.heap.size (u8s (md B)).toArray = w7 at *
    have K7 := Lib.hid (nix_trans K6.out k7)
    have S7 := Lib.hid (S6.out.nix k7)
    have T7 := Lib.hid (T6.out.nix k7)
    have H7 := Lib.hid h7
    have HP3 : Hid (p < w6.heap.size ∧ r < w6.heap.size) := Lib.hid ⟨S6.out.lt, T6.out.lt⟩
    have A3 := Lib.hid (add_any p _ A C w7 S7.out (HSC.out.nix K7.out) HBC.out (HSC.out.apart HP1.out.1) HP1.out.2.1 (HT.out.nix K7.out) (by have := HL.out; omega))
    clear h7 k7
    generalize w6.heap.size = b1 at *
    go_wp2_with fail
    refine A3.out.mono ?_
    rintro e w8 ⟨rfl, st8, k8⟩
    have K8 : Hid (Kept Nix w w8) := Lib.hid (nix_put K7.out k8 (fun j hj => by rw [show j = p from hj]; exact HP1.out.1))
    have T8 := Lib.hid (T7.out.kept k8 (fun h => HP2.out.2.2 (show r = p from h).symm))
    have H8 := Lib.hid (k8.heap H7.out (fun h => by have e : b1 = p := h; have := HP3.out.1; omega))
    have S8 := Lib.hid st8
    have SM2 := Lib.hid (sum_any r B w8 T8.out (HT.out.nix K8.out) (by have := HL.out; omega))
    clear st8 k8 A3
    go_wp2_with fail
    refine SM2.out.mono ?_
    rintro e w9 ⟨rfl, k9⟩
    have K9 := Lib.hid (nix_trans K8.out k9)
    have S9 := Lib.hid (S8.out.nix k9)
    have T9 := Lib.hid (T8.out.nix k9)
    have H9 := Lib.hid (k9.heap H8.out (fun h => h))
    clear k9 SM2
    go_upto_region 13 with (first | (refine wpList_store_row rfl 24 _ _ rfl _ _ rfl rfl 24 _ (heap_alloc_new w9 _) ZS.out (by rw [ZT.out]; rfl) Z1.out ?_))
    obtain ⟨h10, k10⟩ := put_dig w9 (u8s (md B)).toArray
    generalize (w9.alloc (.cells #[.int .u8 0, .int .u8 0, .int .u8 0, .int .u8 0, .int .u8 0, .int .u8 0, .int .u8 0, .int .u8 0, .int .u8 0, .int .u8 0, .int .u8 0, .int .u8 0, .int .u8 0, .int .u8 0, .int .u8 0, .int .u8 0] 24)).setRow w9.heap.size (u8s (md B)).toArray = w10 at *
    have K10 := Lib.hid (nix_trans K9.out k10)
    have S10 := Lib.hid (S9.out.nix k10)
    have T10 := Lib.hid (T9.out.nix k10)
    have HX10 := Lib.hid (k10.heap H9.out (fun h => h))
    have HY10 := Lib.hid h10
    clear h10 k10
    generalize w9.heap.size = b2 at *
    have Q1 := Lib.hid (src_u8s (HSA.out.nix K10.out))
    go_wp2_with (at_builtin; refine wpList_app _ rfl (.tmp 49) (.tmp 50) 22 rfl w10.heap.size 5 (.int .u8 0) 1 1 Tryd.underlying22 info_u8 rfl (by decide) (.slice (some ⟨w10.heap.size, 0, none⟩) 0 0) 0 [] rfl ?_ aa A.length ca (u8s A) rfl ?_ ?_ ?_ ?_ ?_)
    · exact World.ownsRow_made w10 #[] 0 (Nat.le_refl _) (by simp [maxLen]) rfl
    · exact Q1.out.alloc _
    · have := HL.out; simp only [maxLen]; omega
    · have := HL.out; omega
    · simp
    · intro v11 w11 o11 g11 _
      have k11 := kept_new g11
      have o11 : w11.ownsRow w10.heap.size 5 1 v11 A.length (u8s A) := by simpa using o11
      have Q2 := Lib.hid (src_u8s (HSC.out.nix (nix_trans K10.out k11)))
      obtain ⟨a11, c11, rfl, _, _⟩ := owns_shape o11
      have O11 := Lib.hid o11
      have KK11 := Lib.hid k11
      clear o11 g11 k11 Q1
      go_wp2_with (at_builtin; refine wpList_app _ rfl (.tmp 51) (.tmp 52) 22 rfl w10.heap.size 5 (.int .u8 0) 1 1 Tryd.underlying22 info_u8 rfl (by decide) _ A.length (u8s A) rfl O11.out ac C.length cc (u8s C) rfl Q2.out ?_ ?_ ?_ ?_)
      · have := HL.out; simp only [maxLen]; omega
      · have := HL.out; omega
      · exact KK11.out.size
      · intro v12 w12 o12 g12 _
        have k12 : Kept Nix w10 w12 := KK11.out.grown g12 (fun k hk => .inr (O11.out.lt k hk).1)
        rw [← u8s_append] at o12
        have hAC : (A ++ C).length = A.length + C.length := by simp
        rw [← hAC] at o12
        obtain ⟨a12, c12, rfl, _, _⟩ := owns_shape o12
        have HBAC : Hid (∀ b ∈ A ++ C, b < 256) := Lib.hid S10.out.1
        have K12 := Lib.hid (nix_trans K10.out k12)
        have heq1 := eq_md B
        have heq2 := eq_md (A ++ C)
        have RG : Hid (∀ wx, Kept Nix w12 wx → wx.rangeAt b1 0 (u8s (md B)) ∧ wx.rangeAt b2 0 (u8s (md B))) := Lib.hid (by
          intro wx kx
          have kk := nix_trans k12 kx
          refine ⟨fun j u hu => ?_, fun j u hu => ?_⟩
          · rw [Nat.zero_add, cell_of (kk.heap HX10.out (fun h => h)), List.getElem?_toArray]; exact hu
          · rw [Nat.zero_add, cell_of (kk.heap HY10.out (fun h => h)), List.getElem?_toArray]; exact hu)
        have SP : Hid (∀ wx, Kept Nix w12 wx → Calls Tryd.prog 15 #[.pointer (some ⟨p, 0, none⟩)] wx fun e w' => e = .returned (.agg (u8s (md (A ++ C))).toArray) ∧ Kept Nix w12 w') := Lib.hid (fun wx kx =>
          (sum_any p (A ++ C) wx (S10.out.nix (nix_trans k12 kx)) (HT.out.nix (nix_trans K12.out kx)) (by have := HL.out; rw [hAC]; omega)).mono fun _ _ ⟨h1, h2⟩ => ⟨h1, nix_trans kx h2⟩)
        have OB : Hid (∀ wx, Kept Nix w12 wx → Calls Tryd.prog 10 #[.slice ab B.length cb] wx fun e w' => e = .returned (.agg (u8s (md B)).toArray) ∧ Kept Nix w12 w') := Lib.hid (fun wx kx =>
          (of_any _ B wx (HSB.out.nix (nix_trans K12.out kx)) HBB.out (HT.out.nix (nix_trans K12.out kx)) (by have := HL.out; omega)).mono fun _ _ ⟨h1, h2⟩ => ⟨h1, nix_trans kx h2⟩)
        have OA : Hid (∀ wx, Kept Nix w12 wx → Calls Tryd.prog 10 #[.slice a12 (A ++ C).length c12] wx fun e w' => e = .returned (.agg (u8s (md (A ++ C))).toArray) ∧ Kept Nix w12 w') := Lib.hid (fun wx kx =>
          (of_any _ (A ++ C) wx ((sl_of_owns o12).nix kx) HBAC.out (HT.out.nix (nix_trans K12.out kx)) (by have := HL.out; rw [hAC]; omega)).mono fun _ _ ⟨h1, h2⟩ => ⟨h1, nix_trans kx h2⟩)
        have LP : Hid (∀ wx, Kept Nix w12 wx → Calls Tryd.prog 14 #[.pointer (some ⟨p, 0, none⟩)] wx fun e w' => e = .returned (.int .i64 ((A ++ C).length : Int)) ∧ wx = w') := Lib.hid (fun wx kx => len_any p _ wx (S10.out.nix (nix_trans k12 kx)))
        have LR : Hid (∀ wx, Kept Nix w12 wx → Calls Tryd.prog 14 #[.pointer (some ⟨r, 0, none⟩)] wx fun e w' => e = .returned (.int .i64 (B.length : Int)) ∧ wx = w') := Lib.hid (fun wx kx => len_any r _ wx (T10.out.nix (nix_trans k12 kx)))
        have hu24 := Tryd.underlying24
        have hi24 : (Tryd.prog.info? 24).map (·.size) = some (u8s (md B)).length := by rw [u8s_length, md_length]; exact size_sum
        clear o12 g12 k12 O11 KK11 Q2 hx hy hz ZS ZT Z1
        generalize u8s (md B) = U at *
        generalize (u8s (md (A ++ C))).toArray = D at *
        generalize hAL : (A ++ C).length = n at *
        clear hAL hAC
        go_wp2_with fail
        refine wp_region_noPanic ?_
        refine wp_region_held_drew (S := fun w' => Kept Nix w12 w' ∧ w'.rangeAt b1 0 U ∧ w'.rangeAt b2 0 U) (by kernel_rfl) ⟨(Kept.refl _ _).drew, RG.out _ (Kept.refl _ _).drew⟩ (fun hHeld => ?_)
        have k0 : Kept Nix w12 w12.drew := (Kept.refl _ _).drew
        refine wpAnyH_take (i := 0) (oi := { dst := some 54, op := Op.move (Operand.tmp 7), type := 4, pos := "law.go:66", after := #[], guard := none }) (v := ?_) rfl (by kernel_rfl) (by kernel_rfl) (by kernel_rfl) (fun _ _ _ h => h) (Or.inl ⟨by rfl, ?_⟩) (by assumption) ?_
        rotate_left
        · intro wz hz
          go_simp
          try with_reducible rfl
        try simp only [Act.put, List.setIfInBounds_toArray, List.set_cons_zero, List.set_cons_succ]
        refine wpAnyH_take (i := 1) (oi := { dst := some 55, op := Op.move (Operand.tmp 54), type := 4, pos := "law.go:66", after := #[{ on := 0, ground := Ground.data }], guard := none }) (v := ?_) rfl (by kernel_rfl) (by kernel_rfl) (by kernel_rfl) (fun _ _ _ h => h) (Or.inl ⟨by rfl, ?_⟩) (by assumption) ?_
        rotate_left
        · intro wz hz
          go_simp
          try with_reducible rfl
        try simp only [Act.put, List.setIfInBounds_toArray, List.set_cons_zero, List.set_cons_succ]
        refine wpAnyH_take (i := 2) (oi := { dst := some 56, op := Op.load 24 (Operand.tmp 10), type := 24, pos := "law.go:66", after := #[{ on := 1, ground := Ground.guard }], guard := some (1, true) }) rfl (by kernel_rfl) (by kernel_rfl) (by kernel_rfl) (fun _ _ _ h => h) (yieldsIf_load_mid (by rfl) _ _ rfl b1 0 rfl U _ (fun _ h => h.2.1) hu24 rfl hi24) (by assumption) ?_
        try simp only [Act.put, List.setIfInBounds_toArray, List.set_cons_zero, List.set_cons_succ]
        refine wpAnyH_take (i := 3) (oi := { dst := some 57, op := Op.load 24 (Operand.tmp 11), type := 24, pos := "law.go:66", after := #[{ on := 1, ground := Ground.guard }], guard := some (1, true) }) rfl (by kernel_rfl) (by kernel_rfl) (by kernel_rfl) (fun _ _ _ h => h) (yieldsIf_load_mid (by rfl) _ _ rfl b2 0 rfl U _ (fun _ h => h.2.2) hu24 rfl hi24) (by assumption) ?_
        try simp only [Act.put, List.setIfInBounds_toArray, List.set_cons_zero, List.set_cons_succ]
        refine wpAnyH_take (i := 4) (oi := { dst := some 58, op := Op.binOp BinOp.eql 24 (Operand.tmp 56) (Operand.tmp 57) 24, type := 4, pos := "law.go:66", after := #[{ on := 2, ground := Ground.data }, { on := 3, ground := Ground.data }, { on := 1, ground := Ground.guard }], guard := some (1, true) }) (v := ?_) rfl (by kernel_rfl) (by kernel_rfl) (by kernel_rfl) (fun _ _ _ h => h) (Or.inl ⟨by rfl, ?_⟩) (by assumption) ?_
        rotate_left
        · intro wz hz
          go_simp
          try with_reducible rfl
        try simp only [Act.put, List.setIfInBounds_toArray, List.set_cons_zero, List.set_cons_succ]
        refine wpAnyH_take (i := 5) (oi := { dst := some 59, op := Op.pick (Operand.tmp 55) (Operand.tmp 58) (Operand.const (Value.bool false)), type := 4, pos := "law.go:66", after := #[{ on := 1, ground := Ground.data }, { on := 4, ground := Ground.data }], guard := none }) (v := ?_) rfl (by kernel_rfl) (by kernel_rfl) (by kernel_rfl) (fun _ _ _ h => h) (Or.inl ⟨by rfl, ?_⟩) (by assumption) ?_
        rotate_left
        · intro wz hz
          go_simp
          try with_reducible rfl
        try simp only [Act.put, List.setIfInBounds_toArray, List.set_cons_zero, List.set_cons_succ]
        refine wpAnyH_take (i := 6) (oi := { dst := some 60, op := Op.move (Operand.tmp 59), type := 4, pos := "law.go:66", after := #[{ on := 5, ground := Ground.data }, { on := 1, ground := Ground.chain }], guard := none }) (v := ?_) rfl (by kernel_rfl) (by kernel_rfl) (by kernel_rfl) (fun _ _ _ h => h) (Or.inl ⟨by rfl, ?_⟩) (by assumption) ?_
        rotate_left
        · intro wz hz
          go_simp
          try with_reducible rfl
        try simp only [Act.put, List.setIfInBounds_toArray, List.set_cons_zero, List.set_cons_succ]
        refine wpAnyH_take (i := 7) (oi := { dst := some 61, op := Op.load 24 (Operand.tmp 11), type := 24, pos := "law.go:66", after := #[{ on := 6, ground := Ground.guard }], guard := some (6, true) }) rfl (by kernel_rfl) (by kernel_rfl) (by kernel_rfl) (fun _ _ _ h => h) (yieldsIf_load_mid (by rfl) _ _ rfl b2 0 rfl U _ (fun _ h => h.2.2) hu24 rfl hi24) (by assumption) ?_
        try simp only [Act.put, List.setIfInBounds_toArray, List.set_cons_zero, List.set_cons_succ]
        refine wpAnyH_take (i := 8) (oi := { dst := some 62, op := Op.move (Operand.tmp 1), type := 22, pos := "law.go:66", after := #[{ on := 6, ground := Ground.guard }], guard := some (6, true) }) (v := ?_) rfl (by kernel_rfl) (by kernel_rfl) (by kernel_rfl) (fun _ _ _ h => h) (Or.inl ⟨by rfl, ?_⟩) (by assumption) ?_
        rotate_left
        · intro wz hz
          go_simp
          try with_reducible rfl
        try simp only [Act.put, List.setIfInBounds_toArray, List.set_cons_zero, List.set_cons_succ]
        refine wpAnyH_ready (rs := [9]) (by kernel_rfl) (by simp) ?_
        refine AllReadyH.cons (o := { dst := some 63, op := Op.call { callee := Callee.value (Operand.func 10), args := #[Operand.tmp 62], argTypes := #[22] }, type := 24, pos := "law.go:66", after := #[{ on := 8, ground := Ground.data }, { on := 6, ground := Ground.chain }, { on := 6, ground := Ground.guard }], guard := some (6, true) }) rfl (fun K hK => ?_) AllReadyH.nil
        go_simp
        refine (OB.out _ k0).mono ?_
        rintro e wa ⟨rfl, wak⟩
        refine hK.out _ _ ⟨wak, RG.out _ wak⟩ (fun hHeld => ?_)
        clear hK K
        try simp only [Act.put, List.setIfInBounds_toArray, List.set_cons_zero, List.set_cons_succ]
        refine wpAnyH_take (i := 10) (oi := { dst := some 64, op := Op.binOp BinOp.eql 24 (Operand.tmp 61) (Operand.tmp 63) 24, type := 4, pos := "law.go:66", after := #[{ on := 7, ground := Ground.data }, { on := 9, ground := Ground.data }, { on := 6, ground := Ground.guard }], guard := some (6, true) }) (v := ?_) rfl (by kernel_rfl) (by kernel_rfl) (by kernel_rfl) (fun _ _ _ h => h) (Or.inl ⟨by rfl, ?_⟩) (by assumption) ?_
        rotate_left
        · intro wz hz
          go_simp
          try with_reducible rfl
        try simp only [Act.put, List.setIfInBounds_toArray, List.set_cons_zero, List.set_cons_succ]
        refine wpAnyH_take (i := 11) (oi := { dst := some 65, op := Op.pick (Operand.tmp 60) (Operand.tmp 64) (Operand.const (Value.bool false)), type := 4, pos := "law.go:66", after := #[{ on := 6, ground := Ground.data }, { on := 10, ground := Ground.data }], guard := none }) (v := ?_) rfl (by kernel_rfl) (by kernel_rfl) (by kernel_rfl) (fun _ _ _ h => h) (Or.inl ⟨by rfl, ?_⟩) (by assumption) ?_
        rotate_left
        · intro wz hz
          go_simp
          try with_reducible rfl
        try simp only [Act.put, List.setIfInBounds_toArray, List.set_cons_zero, List.set_cons_succ]
        refine wpAnyH_take (i := 12) (oi := { dst := some 66, op := Op.move (Operand.tmp 65), type := 4, pos := "law.go:66", after := #[{ on := 11, ground := Ground.data }, { on := 9, ground := Ground.chain }], guard := none }) (v := ?_) rfl (by kernel_rfl) (by kernel_rfl) (by kernel_rfl) (fun _ _ _ h => h) (Or.inl ⟨by rfl, ?_⟩) (by assumption) ?_
        rotate_left
        · intro wz hz
          go_simp
          try with_reducible rfl
        try simp only [Act.put, List.setIfInBounds_toArray, List.set_cons_zero, List.set_cons_succ]
        refine wpAnyH_take (i := 13) (oi := { dst := some 67, op := Op.move (Operand.tmp 8), type := 28, pos := "law.go:66", after := #[{ on := 12, ground := Ground.guard }], guard := some (12, true) }) (v := ?_) rfl (by kernel_rfl) (by kernel_rfl) (by kernel_rfl) (fun _ _ _ h => h) (Or.inl ⟨by rfl, ?_⟩) (by assumption) ?_
        rotate_left
        · intro wz hz
          go_simp
          try with_reducible rfl
        try simp only [Act.put, List.setIfInBounds_toArray, List.set_cons_zero, List.set_cons_succ]
        refine wpAnyH_take (i := 15) (oi := { dst := some 69, op := Op.move (Operand.tmp 12), type := 22, pos := "law.go:66", after := #[{ on := 12, ground := Ground.guard }], guard := some (12, true) }) (v := ?_) rfl (by kernel_rfl) (by kernel_rfl) (by kernel_rfl) (fun _ _ _ h => h) (Or.inl ⟨by rfl, ?_⟩) (by assumption) ?_
        rotate_left
        · intro wz hz
          go_simp
          try with_reducible rfl
        try simp only [Act.put, List.setIfInBounds_toArray, List.set_cons_zero, List.set_cons_succ]
        refine wpAnyH_ready (rs := [14]) (by kernel_rfl) (by simp) ?_
        refine AllReadyH.cons (o := { dst := some 68, op := Op.call { callee := Callee.value (Operand.func 15), args := #[Operand.tmp 67], argTypes := #[28] }, type := 24, pos := "law.go:66", after := #[{ on := 13, ground := Ground.data }, { on := 12, ground := Ground.chain }, { on := 12, ground := Ground.guard }], guard := some (12, true) }) rfl (fun K hK => ?_) AllReadyH.nil
        go_simp
        refine (SP.out _ wak).mono ?_
        rintro e wb ⟨rfl, wbk⟩
        refine hK.out _ _ ⟨wbk, RG.out _ wbk⟩ (fun hHeld => ?_)
        clear hK K
        try simp only [Act.put, List.setIfInBounds_toArray, List.set_cons_zero, List.set_cons_succ]
        refine wpAnyH_ready (rs := [16]) (by kernel_rfl) (by simp) ?_
        refine AllReadyH.cons (o := { dst := some 70, op := Op.call { callee := Callee.value (Operand.func 10), args := #[Operand.tmp 69], argTypes := #[22] }, type := 24, pos := "law.go:66", after := #[{ on := 15, ground := Ground.data }, { on := 14, ground := Ground.chain }, { on := 12, ground := Ground.guard }], guard := some (12, true) }) rfl (fun K hK => ?_) AllReadyH.nil
        go_simp
        refine (OA.out _ wbk).mono ?_
        rintro e wc ⟨rfl, wck⟩
        refine hK.out _ _ ⟨wck, RG.out _ wck⟩ (fun hHeld => ?_)
        clear hK K
        try simp only [Act.put, List.setIfInBounds_toArray, List.set_cons_zero, List.set_cons_succ]
        refine wpAnyH_take (i := 17) (oi := { dst := some 71, op := Op.binOp BinOp.eql 24 (Operand.tmp 68) (Operand.tmp 70) 24, type := 4, pos := "law.go:66", after := #[{ on := 14, ground := Ground.data }, { on := 16, ground := Ground.data }, { on := 12, ground := Ground.guard }], guard := some (12, true) }) (v := ?_) rfl (by kernel_rfl) (by kernel_rfl) (by kernel_rfl) (fun _ _ _ h => h) (Or.inl ⟨by rfl, ?_⟩) (by assumption) ?_
        rotate_left
        · intro wz hz
          go_simp
          try with_reducible rfl
        try simp only [Act.put, List.setIfInBounds_toArray, List.set_cons_zero, List.set_cons_succ]
        refine wpAnyH_take (i := 18) (oi := { dst := some 72, op := Op.pick (Operand.tmp 66) (Operand.tmp 71) (Operand.const (Value.bool false)), type := 4, pos := "law.go:66", after := #[{ on := 12, ground := Ground.data }, { on := 17, ground := Ground.data }], guard := none }) (v := ?_) rfl (by kernel_rfl) (by kernel_rfl) (by kernel_rfl) (fun _ _ _ h => h) (Or.inl ⟨by rfl, ?_⟩) (by assumption) ?_
        rotate_left
        · intro wz hz
          go_simp
          try with_reducible rfl
        try simp only [Act.put, List.setIfInBounds_toArray, List.set_cons_zero, List.set_cons_succ]
        refine wpAnyH_take (i := 19) (oi := { dst := some 73, op := Op.move (Operand.tmp 72), type := 4, pos := "law.go:66", after := #[{ on := 18, ground := Ground.data }, { on := 16, ground := Ground.chain }], guard := none }) (v := ?_) rfl (by kernel_rfl) (by kernel_rfl) (by kernel_rfl) (fun _ _ _ h => h) (Or.inl ⟨by rfl, ?_⟩) (by assumption) ?_
        rotate_left
        · intro wz hz
          go_simp
          try with_reducible rfl
        try simp only [Act.put, List.setIfInBounds_toArray, List.set_cons_zero, List.set_cons_succ]
        refine wpAnyH_take (i := 20) (oi := { dst := some 74, op := Op.move (Operand.tmp 9), type := 28, pos := "law.go:66", after := #[{ on := 19, ground := Ground.guard }], guard := some (19, true) }) (v := ?_) rfl (by kernel_rfl) (by kernel_rfl) (by kernel_rfl) (fun _ _ _ h => h) (Or.inl ⟨by rfl, ?_⟩) (by assumption) ?_
        rotate_left
        · intro wz hz
          go_simp
          try with_reducible rfl
        try simp only [Act.put, List.setIfInBounds_toArray, List.set_cons_zero, List.set_cons_succ]
        refine wpAnyH_take (i := 22) (oi := { dst := some 76, op := Op.move (Operand.tmp 1), type := 22, pos := "law.go:66", after := #[{ on := 19, ground := Ground.guard }], guard := some (19, true) }) (v := ?_) rfl (by kernel_rfl) (by kernel_rfl) (by kernel_rfl) (fun _ _ _ h => h) (Or.inl ⟨by rfl, ?_⟩) (by assumption) ?_
        rotate_left
        · intro wz hz
          go_simp
          try with_reducible rfl
        try simp only [Act.put, List.setIfInBounds_toArray, List.set_cons_zero, List.set_cons_succ]
        refine wpAnyH_take (i := 23) (oi := { dst := some 77, op := Op.call { callee := Callee.builtin Builtin.len, args := #[Operand.tmp 76], argTypes := #[22] }, type := 3, pos := "law.go:66", after := #[{ on := 22, ground := Ground.data }, { on := 19, ground := Ground.guard }], guard := some (19, true) }) (v := ?_) rfl (by kernel_rfl) (by kernel_rfl) (by kernel_rfl) (fun _ _ _ h => h) (Or.inl ⟨by rfl, ?_⟩) (by assumption) ?_
        rotate_left
        · intro wz hz
          go_simp
          try with_reducible rfl
        try simp only [Act.put, List.setIfInBounds_toArray, List.set_cons_zero, List.set_cons_succ]
        refine wpAnyH_ready (rs := [21]) (by kernel_rfl) (by simp) ?_
        refine AllReadyH.cons (o := { dst := some 75, op := Op.call { callee := Callee.value (Operand.func 14), args := #[Operand.tmp 74], argTypes := #[28] }, type := 3, pos := "law.go:66", after := #[{ on := 20, ground := Ground.data }, { on := 19, ground := Ground.chain }, { on := 19, ground := Ground.guard }], guard := some (19, true) }) rfl (fun K hK => ?_) AllReadyH.nil
        go_simp
        refine (LR.out _ wck).mono ?_
        rintro e wz ⟨rfl, rfl⟩
        refine hK.out _ _ ⟨wck, RG.out _ wck⟩ (fun hHeld => ?_)
        clear hK K
        try simp only [Act.put, List.setIfInBounds_toArray, List.set_cons_zero, List.set_cons_succ]
        refine wpAnyH_take (i := 24) (oi := { dst := some 78, op := Op.binOp BinOp.eql 3 (Operand.tmp 75) (Operand.tmp 77) 3, type := 4, pos := "law.go:66", after := #[{ on := 21, ground := Ground.data }, { on := 23, ground := Ground.data }, { on := 19, ground := Ground.guard }], guard := some (19, true) }) (v := ?_) rfl (by kernel_rfl) (by kernel_rfl) (by kernel_rfl) (fun _ _ _ h => h) (Or.inl ⟨by rfl, ?_⟩) (by assumption) ?_
        rotate_left
        · intro wz hz
          go_simp
          try with_reducible rfl
        try simp only [Act.put, List.setIfInBounds_toArray, List.set_cons_zero, List.set_cons_succ]
        refine wpAnyH_take (i := 25) (oi := { dst := some 79, op := Op.pick (Operand.tmp 73) (Operand.tmp 78) (Operand.const (Value.bool false)), type := 4, pos := "law.go:66", after := #[{ on := 19, ground := Ground.data }, { on := 24, ground := Ground.data }], guard := none }) (v := ?_) rfl (by kernel_rfl) (by kernel_rfl) (by kernel_rfl) (fun _ _ _ h => h) (Or.inl ⟨by rfl, ?_⟩) (by assumption) ?_
        rotate_left
        · intro wz hz
          go_simp
          try with_reducible rfl
        try simp only [Act.put, List.setIfInBounds_toArray, List.set_cons_zero, List.set_cons_succ]
        refine wpAnyH_take (i := 26) (oi := { dst := some 80, op := Op.move (Operand.tmp 79), type := 4, pos := "law.go:66", after := #[{ on := 25, ground := Ground.data }, { on := 21, ground := Ground.chain }], guard := none }) (v := ?_) rfl (by kernel_rfl) (by kernel_rfl) (by kernel_rfl) (fun _ _ _ h => h) (Or.inl ⟨by rfl, ?_⟩) (by assumption) ?_
        rotate_left
        · intro wz hz
          go_simp
          try with_reducible rfl
        try simp only [Act.put, List.setIfInBounds_toArray, List.set_cons_zero, List.set_cons_succ]
        refine wpAnyH_take (i := 27) (oi := { dst := some 81, op := Op.move (Operand.tmp 8), type := 28, pos := "law.go:66", after := #[{ on := 26, ground := Ground.guard }], guard := some (26, true) }) (v := ?_) rfl (by kernel_rfl) (by kernel_rfl) (by kernel_rfl) (fun _ _ _ h => h) (Or.inl ⟨by rfl, ?_⟩) (by assumption) ?_
        rotate_left
        · intro wz hz
          go_simp
          try with_reducible rfl
        try simp only [Act.put, List.setIfInBounds_toArray, List.set_cons_zero, List.set_cons_succ]
        refine wpAnyH_take (i := 29) (oi := { dst := some 83, op := Op.move (Operand.tmp 12), type := 22, pos := "law.go:66", after := #[{ on := 26, ground := Ground.guard }], guard := some (26, true) }) (v := ?_) rfl (by kernel_rfl) (by kernel_rfl) (by kernel_rfl) (fun _ _ _ h => h) (Or.inl ⟨by rfl, ?_⟩) (by assumption) ?_
        rotate_left
        · intro wz hz
          go_simp
          try with_reducible rfl
        try simp only [Act.put, List.setIfInBounds_toArray, List.set_cons_zero, List.set_cons_succ]
        refine wpAnyH_take (i := 30) (oi := { dst := some 84, op := Op.call { callee := Callee.builtin Builtin.len, args := #[Operand.tmp 83], argTypes := #[22] }, type := 3, pos := "law.go:66", after := #[{ on := 29, ground := Ground.data }, { on := 26, ground := Ground.guard }], guard := some (26, true) }) (v := ?_) rfl (by kernel_rfl) (by kernel_rfl) (by kernel_rfl) (fun _ _ _ h => h) (Or.inl ⟨by rfl, ?_⟩) (by assumption) ?_
        rotate_left
        · intro wz hz
          go_simp
          try with_reducible rfl
        try simp only [Act.put, List.setIfInBounds_toArray, List.set_cons_zero, List.set_cons_succ]
        refine wpAnyH_ready (rs := [28]) (by kernel_rfl) (by simp) ?_
        refine AllReadyH.cons (o := { dst := some 82, op := Op.call { callee := Callee.value (Operand.func 14), args := #[Operand.tmp 81], argTypes := #[28] }, type := 3, pos := "law.go:66", after := #[{ on := 27, ground := Ground.data }, { on := 26, ground := Ground.chain }, { on := 26, ground := Ground.guard }], guard := some (26, true) }) rfl (fun K hK => ?_) AllReadyH.nil
        go_simp
        refine (LP.out _ wck).mono ?_
        rintro e wz ⟨rfl, rfl⟩
        refine hK.out _ _ ⟨wck, RG.out _ wck⟩ (fun hHeld => ?_)
        clear hK K
        try simp only [Act.put, List.setIfInBounds_toArray, List.set_cons_zero, List.set_cons_succ]
        refine wpAnyH_take (i := 31) (oi := { dst := some 85, op := Op.binOp BinOp.eql 3 (Operand.tmp 82) (Operand.tmp 84) 3, type := 4, pos := "law.go:66", after := #[{ on := 28, ground := Ground.data }, { on := 30, ground := Ground.data }, { on := 26, ground := Ground.guard }], guard := some (26, true) }) (v := ?_) rfl (by kernel_rfl) (by kernel_rfl) (by kernel_rfl) (fun _ _ _ h => h) (Or.inl ⟨by rfl, ?_⟩) (by assumption) ?_
        rotate_left
        · intro wz hz
          go_simp
          try with_reducible rfl
        try simp only [Act.put, List.setIfInBounds_toArray, List.set_cons_zero, List.set_cons_succ]
        refine wpAnyH_take (i := 32) (oi := { dst := some 86, op := Op.pick (Operand.tmp 80) (Operand.tmp 85) (Operand.const (Value.bool false)), type := 4, pos := "law.go:66", after := #[{ on := 26, ground := Ground.data }, { on := 31, ground := Ground.data }], guard := none }) (v := ?_) rfl (by kernel_rfl) (by kernel_rfl) (by kernel_rfl) (fun _ _ _ h => h) (Or.inl ⟨by rfl, ?_⟩) (by assumption) ?_
        rotate_left
        · intro wz hz
          go_simp
          try with_reducible rfl
        try simp only [Act.put, List.setIfInBounds_toArray, List.set_cons_zero, List.set_cons_succ]
        refine wpAnyH_take (i := 33) (oi := { dst := some 6, op := Op.assign (Operand.tmp 86), type := 4, pos := "law.go:66", after := #[{ on := 32, ground := Ground.data }, { on := 28, ground := Ground.chain }, { on := 0, ground := Ground.phase }, { on := 1, ground := Ground.phase }, { on := 2, ground := Ground.phase }, { on := 3, ground := Ground.phase }, { on := 4, ground := Ground.phase }, { on := 5, ground := Ground.phase }, { on := 6, ground := Ground.phase }, { on := 7, ground := Ground.phase }, { on := 8, ground := Ground.phase }, { on := 9, ground := Ground.phase }, { on := 10, ground := Ground.phase }, { on := 11, ground := Ground.phase }, { on := 12, ground := Ground.phase }, { on := 13, ground := Ground.phase }, { on := 14, ground := Ground.phase }, { on := 15, ground := Ground.phase }, { on := 16, ground := Ground.phase }, { on := 17, ground := Ground.phase }, { on := 18, ground := Ground.phase }, { on := 19, ground := Ground.phase }, { on := 20, ground := Ground.phase }, { on := 21, ground := Ground.phase }, { on := 22, ground := Ground.phase }, { on := 23, ground := Ground.phase }, { on := 24, ground := Ground.phase }, { on := 25, ground := Ground.phase }, { on := 26, ground := Ground.phase }, { on := 27, ground := Ground.phase }, { on := 28, ground := Ground.phase }, { on := 29, ground := Ground.phase }, { on := 30, ground := Ground.phase }, { on := 31, ground := Ground.phase }, { on := 32, ground := Ground.phase }], guard := none }) (v := ?_) rfl (by kernel_rfl) (by kernel_rfl) (by kernel_rfl) (fun _ _ _ h => h) (Or.inl ⟨by rfl, ?_⟩) (by assumption) ?_
        rotate_left
        · intro wz hz
          go_simp
          try with_reducible rfl
        try simp only [Act.put, List.setIfInBounds_toArray, List.set_cons_zero, List.set_cons_succ]
        refine wpAnyH_done (by kernel_rfl) ?_ _
        refine NoPanic.normal ?_
        go_wp2_with fail
        go_ret
        exact ⟨rfl, nix_trans K12.out wck⟩

end Go.Proofs.YtfcidddpoofjgaaDoor
