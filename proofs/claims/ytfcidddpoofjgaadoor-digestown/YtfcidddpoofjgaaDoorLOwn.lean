/- The walk of DigestOwn. -/
import Derived.Test.YtfcidddpoofjgaaDoorDigEq
import Derived.Test.YtfcidddpoofjgaaDoorArgs
namespace Go.Proofs.YtfcidddpoofjgaaDoor
open Go.RowKit Bx Md

/-- A copy of bytes, each of which may have turned. -/
def OwnInv (w : World) (w0 : World) (p n x : Nat) (va vc : Value) (B : List Nat) (a : Act) (w' : World) : Prop :=
  a.defers = [] ∧ a.tmps.size = 46 ∧ a.tmps[0]? = some va ∧ a.tmps[1]? = some (.int .u8 (x : Int)) ∧ a.tmps[5]? = some (.bool true) ∧ a.tmps[6]? = some (.pointer (some ⟨p, 0, none⟩)) ∧ a.tmps[7]? = some vc ∧
    Kept Nix w w' ∧ St w' p B ∧ ∃ i C, i ≤ n ∧ a.tmps[8]? = some (.int .i64 ((i : Nat) : Int)) ∧ w'.ownsRow w0.heap.size 5 1 vc n (u8s C) ∧ ∀ b ∈ C, b < 256

set_option maxHeartbeats 1000000 in
theorem walk_DigestOwn (w : World) (hT : Tab w) (v : Value) (zs : List Int) (s : Sl w v (zs.map (Value.int .u8))) (hz : ∀ n ∈ zs, (Lit.int .u8 n).wf = true) (a1 : Int) (h1 : (Lit.int .u8 a1).wf = true) :
    Calls Tryd.prog 6 #[v, .int .u8 a1] w fun e w' => e = .returned (.bool true) ∧ Kept Nix w w' := by
  have HA := Lib.hid (awake_any w hT)
  have HT := Lib.hid hT
  obtain ⟨B, hs, hB, -⟩ := s.nats hz
  obtain ⟨x, rfl, hx⟩ := nat_u8 h1
  clear s hz h1 hT
  obtain ⟨ao, cap, rfl⟩ := hs.shape
  have HS := Lib.hid hs
  have HB := Lib.hid hB
  have HX := Lib.hid hx
  clear hs hB hx
  by_cases hlen : 100 < (B.length : Int)
  · go_enter Tryd.func6, Tryd.ntmps6
    go_wp2_with fail
    refine HA.out.mono ?_
    rintro e w1 ⟨rfl, k1⟩
    go_wp2_with fail
    go_ret
    exact ⟨rfl, k1⟩
  · have hl2 : decide (100 < (B.length : Int)) = false := by simpa using hlen
    have HL : Hid (B.length ≤ 100) := Lib.hid (by omega)
    clear hlen
    go_enter Tryd.func6, Tryd.ntmps6
    go_wp2_with fail
    refine HA.out.mono ?_
    rintro e w1 ⟨rfl, k1⟩
    have H1 := Lib.hid (new_any w1)
    have K1 := Lib.hid k1
    clear k1
    go_wp2_with fail
    refine H1.out.mono ?_
    rintro e w2 ⟨rfl, st2, k2⟩
    have K2 := Lib.hid (nix_trans K1.out k2)
    have ST2 := Lib.hid st2
    have HP1 : Hid (w.heap.size ≤ w1.heap.size ∧ w1.heap.size ≠ 0 ∧ w1.heap.size < w2.heap.size) := Lib.hid ⟨K1.out.size, by have h1 := K1.out.size; have h2 := HT.out.pos; omega, st2.lt⟩
    clear st2 k2
    generalize hs1 : w1.heap.size = p at *
    clear hs1
    go_upto_region 7 with fail
    -- the copy
    have HSRC := Lib.hid (src_u8s (HS.out.nix K2.out))
    go_wp2_with (at_builtin; refine wpList_app _ rfl (.tmp 17) (.tmp 18) 22 rfl w2.heap.size 5 (.int .u8 0) 1 1 Tryd.underlying22 info_u8 rfl (by decide) (.slice (some ⟨w2.heap.size, 0, none⟩) 0 0) 0 [] rfl ?_ ao B.length cap (u8s B) rfl ?_ ?_ ?_ ?_ ?_)
    · exact World.ownsRow_made w2 #[] 0 (Nat.le_refl _) (by simp [maxLen]) rfl
    · exact HSRC.out.alloc _
    · have := HL.out; simp only [maxLen]; omega
    · have := HL.out; omega
    · simp
    · intro vc w3 o3 g3 _
      have k3 := kept_new g3
      have K3 := Lib.hid (nix_trans K2.out k3)
      have o3 : w3.ownsRow w2.heap.size 5 1 vc B.length (u8s B) := by simpa using o3
      have hvb : vc.ownBlock ≠ some p := by
        intro e
        have h1 := (o3.lt _ e).1
        have h2 := HP1.out
        omega
      have sl3 := sl_of_owns o3
      have A1 := Lib.hid (add_any p vc [] B w3 (ST2.out.nix k3) sl3 HB.out (fun _ => hvb) HP1.out.2.1 (HT.out.nix K3.out) (by have := HL.out; simp; omega))
      have O3 := Lib.hid o3
      have HVB := Lib.hid hvb
      obtain ⟨a3, c3, rfl, _, _⟩ := owns_shape o3
      clear o3 g3 k3 sl3 hvb
      go_wp2_with fail
      refine A1.out.mono ?_
      rintro e w4 ⟨rfl, st4, k4⟩
      rw [List.nil_append] at st4
      have K4 : Hid (Kept Nix w w4) := Lib.hid (nix_put K3.out k4 (fun j hj => by rw [show j = p from hj]; exact HP1.out.1))
      have O4 := Lib.hid (k4.owns O3.out (fun k hk e => HVB.out (by rw [hk, show k = p from e])))
      have ST4 := Lib.hid st4
      clear st4 k4 A1
      go_wp2_with fail
      refine wp_loop (OwnInv w w2 p B.length x (.slice ao B.length cap) (.slice a3 B.length c3) B) (fun a _ => B.length - (intOf (a.tmps.getD 8 undef)).toNat) ?_ ?_
      · exact ⟨rfl, rfl, rfl, rfl, rfl, rfl, rfl, K4.out, ST4.out, 0, B, Nat.zero_le _, rfl, O4.out, HB.out⟩
      · clear O4 ST4 K4 K3 O3 HSRC
        rintro ⟨tm, df⟩ w5 ⟨rfl, hs, h0, h1, h5, h6, h7, k5, st5, i, C, hi, h8, o5, hC⟩
        simp only at hs h0 h1 h5 h6 h7 h8
        obtain ⟨f, hf, hg⟩ := fr_open hs
        have e0 := hg _ _ h0
        have e1 := hg _ _ h1
        have e5 := hg _ _ h5
        have e6 := hg _ _ h6
        have e7 := hg _ _ h7
        have e8 := hg _ _ h8
        simp only [List.range, List.range.loop, List.map] at hf
        rw [e0, e1, e5, e6, e7, e8] at hf
        clear e0 e1 e5 e6 e7 e8 hg hs h0 h1 h5 h6 h7 h8
        subst hf
        have K5 := Lib.hid k5
        have ST5 := Lib.hid st5
        have O5 := Lib.hid o5
        by_cases hlt : i < B.length
        · have hi1 : (i : Int) < (B.length : Int) := by omega
          have hi3 : (i : Int) < 100 := by have := HL.out; omega
          obtain ⟨g, gc, eg, hg1, hg2, hg3, hg4⟩ := owns_pos o5 (by omega)
          simp only [Value.slice.injEq] at eg
          obtain ⟨rfl, _, rfl⟩ := eg
          have hCl : C.length = B.length := by have := o5.1; simpa [u8s] using this
          have hdx := o5.cellAt i (by omega)
          have hfz := o5.frozenAt i
          have hst := fun u => (o5.stored i u).1
          rw [u8s_get _ _ (by omega)] at hdx
          have hy := getD_lt hC i
          have hxy : bits .xor .u8 ((C.getD i 0 : Nat) : Int) (x : Int) = ((C.getD i 0 ^^^ x : Nat) : Int) := u8_xor_nat _ _ hy HX.out
          have HXL : Hid (C.getD i 0 ^^^ x < 256) := Lib.hid (Nat.xor_lt_two_pow (n := 8) hy HX.out)
          have HST := Lib.hid hst
          have HC := Lib.hid hC
          have HG3 : Hid (w2.heap.size ≤ g) := Lib.hid hg3
          have HI := Lib.hid hlt
          clear hst o5 hC hCl hy hg1 hg2 hg3 hg4 hi
          generalize C.getD i 0 = y at *
          generalize y ^^^ x = z at *
          clear k5 st5
          go_wp2_with fail
          refine ⟨⟨rfl, rfl, rfl, rfl, rfl, rfl, rfl, K5.out.setCell (.inr ?_) _, ?_, i + 1, C.set i z, HI.out, rfl, ?_, ?_⟩, ?_⟩
          · have h1 := K2.out.size; have h2 := HG3.out; show w.heap.size ≤ g; omega
          · refine ST5.out.kept (S := One g) (Kept.setCell (p := ⟨g, i, none⟩) (Kept.refl (One g) w5) (.inl (show One g g from rfl)) _) ?_
            intro e
            have e1 : p = g := e
            have h1 := HP1.out
            have h2 := HG3.out
            omega
          · have h := HST.out (.int .u8 (z : Int))
            rw [u8s_set] at h
            exact h
          · intro b hb
            rcases List.mem_or_eq_of_mem_set hb with hb | rfl
            · exact HC.out b hb
            · exact HXL.out
          · have := HI.out
            simp [intOf]; omega
        · have e : i = B.length := by omega
          subst e
          have heq := eq_md B
          have hl5 : decide (B.length < B.length) = false := by simp
          have SP := Lib.hid (sum_any p B w5 ST5.out (HT.out.nix K5.out) (by have := HL.out; omega))
          have OF : Hid (∀ wx, Kept Nix w5 wx → Calls Tryd.prog 10 #[.slice ao B.length cap] wx fun e w' => e = .returned (.agg (u8s (md B)).toArray) ∧ Kept Nix w5 w') := Lib.hid (fun wx kx =>
            (of_any _ B wx (HS.out.nix (nix_trans K5.out kx)) HB.out (HT.out.nix (nix_trans K5.out kx)) (by have := HL.out; omega)).mono fun _ _ ⟨h1, h2⟩ => ⟨h1, nix_trans kx h2⟩)
          clear k5 st5 o5 hC hi hlt O5
          generalize (u8s (md B)).toArray = M at *
          go_wp2_with fail
          refine SP.out.mono ?_
          rintro e w6 ⟨rfl, k6⟩
          go_wp2_with fail
          refine (OF.out w6 k6).mono ?_
          rintro e w7 ⟨rfl, k7⟩
          go_wp2_with fail
          go_ret
          exact ⟨rfl, nix_trans K5.out k7⟩

end Go.Proofs.YtfcidddpoofjgaaDoor
