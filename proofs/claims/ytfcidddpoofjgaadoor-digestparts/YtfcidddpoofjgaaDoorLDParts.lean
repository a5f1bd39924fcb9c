/- The walk of DigestParts. -/
import Derived.Test.YtfcidddpoofjgaaDoorDigEq
import Derived.Test.YtfcidddpoofjgaaDoorArgRows
namespace Go.Proofs.YtfcidddpoofjgaaDoor
open Go.RowKit Bx Md

def PartsInv (w w2 : World) (p n : Nat) (v : Value) (a : Act) (w' : World) : Prop :=
  a.defers = [] ∧ a.tmps.size = 67 ∧ a.tmps[0]? = some v ∧ a.tmps[3]? = some (.bool true) ∧ a.tmps[4]? = some (.pointer (some ⟨p, 0, none⟩)) ∧ Kept Nix w w' ∧ w2.heap.size ≤ w'.heap.size ∧
    ∃ i L va, i ≤ n ∧ a.tmps[6]? = some (.int .i64 ((i : Nat) : Int)) ∧ a.tmps[5]? = some va ∧ St w' p L ∧ w'.ownsRow w2.heap.size 5 1 va L.length (u8s L) ∧ L.length ≤ 40 * i

set_option maxHeartbeats 2000000 in
theorem walk_DigestParts (w : World) (hT : Tab w) (v : Value) (vs : List Value) (s : Rws w v .u8 vs) :
    Calls Tryd.prog 4 #[v] w fun e w' => e = .returned (.bool true) ∧ Kept Nix w w' := by
  have HA := Lib.hid (awake_any w hT)
  have HT := Lib.hid hT
  obtain ⟨hs, hr⟩ := s
  have HS := Lib.hid hs
  have HR := Lib.hid hr
  obtain ⟨ao, cap, rfl, -⟩ := hs
  clear hT hr
  by_cases hlen : 10 < (vs.length : Int)
  · go_enter Tryd.func4, Tryd.ntmps4
    go_wp2_with fail
    refine HA.out.mono ?_
    rintro e w1 ⟨rfl, k1⟩
    go_wp2_with fail
    go_ret
    exact ⟨rfl, k1⟩
  · have hl2 : decide (10 < (vs.length : Int)) = false := by simpa using hlen
    have HL : Hid (vs.length ≤ 10) := Lib.hid (by omega)
    clear hlen
    go_enter Tryd.func4, Tryd.ntmps4
    go_wp2_with fail
    refine HA.out.mono ?_
    rintro e w1 ⟨rfl, k1⟩
    have H1 := Lib.hid (new_any w1)
    have K1 := Lib.hid k1
    clear k1
    go_wp2_with fail
    refine H1.out.mono ?_
    rintro e w2 ⟨rfl, st2, k2⟩
    have K2 := Lib.hid (nix_trans K1.out k2)
    have ST2 := Lib.hid st2
    have HP1 : Hid (w.heap.size ≤ w1.heap.size ∧ w1.heap.size ≠ 0 ∧ w1.heap.size < w2.heap.size) := Lib.hid ⟨K1.out.size, by have h1 := K1.out.size; have h2 := HT.out.pos; omega, st2.lt⟩
    clear st2 k2
    generalize hs1 : w1.heap.size = p at *
    clear hs1
    go_wp2_with fail
    refine wp_loop (PartsInv w w2 p vs.length (.slice ao vs.length cap)) (fun a _ => vs.length - (intOf (a.tmps.getD 6 undef)).toNat) ?_ ?_
    · exact ⟨rfl, rfl, rfl, rfl, rfl, K2.out, Nat.le_refl _, 0, [], .slice none 0 0, Nat.zero_le _, rfl, rfl, ST2.out, World.ownsRow_nil _ _ _ _, by simp⟩
    · rintro ⟨tm, df⟩ w3 ⟨rfl, hs, h0, h3, h4, k3, hsz3, i, L, va, hi, h6, h5, st3, o3, hLl⟩
      simp only at hs h0 h3 h4 h5 h6
      obtain ⟨f, hf, hg⟩ := fr_open hs
      have e0 := hg _ _ h0
      have e3 := hg _ _ h3
      have e4 := hg _ _ h4
      have e5 := hg _ _ h5
      have e6 := hg _ _ h6
      simp only [List.range, List.range.loop, List.map] at hf
      rw [e0, e3, e4, e5, e6] at hf
      clear e0 e3 e4 e5 e6 hg hs h0 h3 h4 h5 h6
      subst hf
      have K3 := Lib.hid k3
      have HZ3 := Lib.hid hsz3
      clear hsz3
      have ST3 := Lib.hid st3
      have O3 := Lib.hid o3
      have HLL := Lib.hid hLl
      obtain ⟨aa, ca, rfl, _, _⟩ := owns_shape o3
      clear k3 st3 o3 hLl
      by_cases hlt : i < vs.length
      · have hi1 : (i : Int) < (vs.length : Int) := by omega
        have hi3 : (i : Int) < 10 := by have := HL.out; omega
        obtain ⟨bo, oo, rfl⟩ := HS.out.where (by omega)
        obtain ⟨zs, hz, hwz⟩ := HR.out vs[i] (List.getElem_mem hlt)
        have hcell : w3.cell? ⟨bo, oo + i, none⟩ = some vs[i] := by
          have h1 := HS.out.nix K3.out
          obtain ⟨ao', c', e, _, _, _, hp⟩ := h1
          simp only [Value.slice.injEq] at e
          obtain ⟨rfl, _, rfl⟩ := e
          obtain ⟨b', o', e, _, hh⟩ := hp (by omega)
          simp only [Option.some.injEq, Addr.mk.injEq, and_true] at e
          obtain ⟨rfl, rfl⟩ := e
          exact hh i _ (List.getElem?_eq_getElem hlt)
        obtain ⟨B, hb, hB, -⟩ := hz.nats hwz
        obtain ⟨ab, cb, eb⟩ := hb.shape
        rw [eb] at hcell hb
        have HBS := Lib.hid hb
        have HB := Lib.hid hB
        have HI := Lib.hid hlt
        clear hz hwz hb hB eb hlt hi
        by_cases hbl : 40 < (B.length : Int)
        · go_wp2_with fail
          go_ret
          exact ⟨rfl, K3.out⟩
        · have hb2 : decide (40 < (B.length : Int)) = false := by simpa using hbl
          have HBL : Hid (B.length ≤ 40) := Lib.hid (by omega)
          clear hbl
          have A1 := Lib.hid (add_any p _ L B w3 ST3.out (HBS.out.nix K3.out) HB.out (HBS.out.apart HP1.out.1) HP1.out.2.1 (HT.out.nix K3.out) (by have h1 := HLL.out; have h2 := HI.out; have h3 := HBL.out; have h4 := HL.out; omega))
          go_wp2_with fail
          refine A1.out.mono ?_
          rintro e w4 ⟨rfl, st4, k4⟩
          have K4 : Hid (Kept Nix w w4) := Lib.hid (nix_put K3.out k4 (fun j hj => by rw [show j = p from hj]; exact HP1.out.1))
          have O4 := Lib.hid (k4.owns O3.out (fun k hk e => by have h1 := (O3.out.lt k hk).1; have h2 := HP1.out; have e1 : k = p := e; omega))
          have ST4 := Lib.hid st4
          have hcell4 : w4.cell? ⟨bo, oo + i, none⟩ = some (.slice ab B.length cb) := by
            have hlt0 : bo < w.heap.size := by
              obtain ⟨ao', c', e, _, _, _, hp⟩ := HS.out
              simp only [Value.slice.injEq] at e
              obtain ⟨rfl, _, rfl⟩ := e
              obtain ⟨b', o', e, hb', _⟩ := hp (by have := HI.out; omega)
              simp only [Option.some.injEq, Addr.mk.injEq, and_true] at e
              obtain ⟨rfl, rfl⟩ := e
              exact hb'
            refine (World.cell?_of_block (k4.block bo (Nat.lt_of_lt_of_le hlt0 K3.out.size) (fun e => ?_))).trans hcell
            have e1 : bo = p := e
            have h2 := HP1.out.1
            omega
          have S4 := Lib.hid (src_u8s (HBS.out.nix K4.out))
          have HZ4 : Hid (w2.heap.size ≤ w4.heap.size) := Lib.hid (Nat.le_trans HZ3.out k4.size)
          clear st4 k4 A1 hcell
          go_wp2_with (at_builtin; refine wpList_app _ rfl (.tmp 34) (.tmp 38) 22 rfl w2.heap.size 5 (.int .u8 0) 1 1 Tryd.underlying22 info_u8 rfl (by decide) _ L.length (u8s L) rfl O4.out ab B.length cb (u8s B) rfl S4.out ?_ ?_ ?_ ?_)
          · have h1 := HLL.out; have h2 := HI.out; have h3 := HBL.out; have h4 := HL.out; simp only [maxLen]; omega
          · have h1 := HLL.out; have h2 := HI.out; have h3 := HBL.out; have h4 := HL.out; omega
          · exact HZ4.out
          · intro v5 w5 o5 g5 _
            have k5 : Kept Nix w w5 := K4.out.grown g5 (fun k hk => .inr (Nat.le_trans K2.out.size (O4.out.lt k hk).1))
            have st5 : St w5 p (L ++ B) := ST4.out.kept (S := fun k => (Value.slice aa L.length ca).ownBlock = some k) ((Kept.refl _ w4).grown g5 (fun k hk => .inl hk)) (fun e => by have h1 := (O4.out.lt p e).1; have h2 := HP1.out; omega)
            rw [← u8s_append] at o5
            have hLB : (L ++ B).length = L.length + B.length := by simp
            rw [← hLB] at o5
            have HLL5 : Hid ((L ++ B).length ≤ 40 * (i + 1)) := Lib.hid (by have h1 := HLL.out; have h3 := HBL.out; rw [hLB]; omega)
            have HBY : Hid (∀ b ∈ L ++ B, b < 256) := Lib.hid st5.1
            have HZ5 : Hid (w2.heap.size ≤ w5.heap.size) := Lib.hid (Nat.le_trans HZ4.out g5.size)
            have K5 := Lib.hid k5
            have ST5 := Lib.hid st5
            have O5 := Lib.hid o5
            obtain ⟨a5, c5, rfl, _, _⟩ := owns_shape o5
            clear k5 st5 o5 g5 hLB hcell4 O4 ST4 S4 O3 ST3
            generalize L ++ B = M at *
            have hml : M.length < 549755813888 := by have h1 := HLL5.out; have h2 := HI.out; have h4 := HL.out; omega
            have heq := eq_md M
            have SP : Hid (∀ wx, Kept Nix w5 wx → Calls Tryd.prog 15 #[.pointer (some ⟨p, 0, none⟩)] wx fun e w' => e = .returned (.agg (u8s (md M)).toArray) ∧ Kept Nix w5 w') := Lib.hid (fun wx kx =>
              (sum_any p M wx (ST5.out.nix kx) (HT.out.nix (nix_trans K5.out kx)) hml).mono fun _ _ ⟨h1, h2⟩ => ⟨h1, nix_trans kx h2⟩)
            have OF : Hid (∀ wx, Kept Nix w5 wx → Calls Tryd.prog 10 #[.slice a5 M.length c5] wx fun e w' => e = .returned (.agg (u8s (md M)).toArray) ∧ Kept Nix w5 w') := Lib.hid (fun wx kx =>
              (of_any _ M wx ((sl_of_owns O5.out).nix kx) HBY.out (HT.out.nix (nix_trans K5.out kx)) hml).mono fun _ _ ⟨h1, h2⟩ => ⟨h1, nix_trans kx h2⟩)
            have LP := Lib.hid (len_any p M w5 ST5.out)
            clear hml
            generalize (u8s (md M)).toArray = D at *
            go_wp2_with fail
            refine LP.out.mono ?_
            rintro e w5' ⟨rfl, rfl⟩
            go_wp2_with fail
            refine (SP.out w5 (Kept.refl _ _)).mono ?_
            rintro e w6 ⟨rfl, k6⟩
            go_wp2_with fail
            refine (OF.out w6 k6).mono ?_
            rintro e w7 ⟨rfl, k7⟩
            go_wp2_with fail
            refine (SP.out w7 k7).mono ?_
            rintro e w8 ⟨rfl, k8⟩
            go_wp2_with fail
            refine (SP.out w8 k8).mono ?_
            rintro e w9 ⟨rfl, k9⟩
            go_wp2_with fail
            refine ⟨⟨rfl, rfl, rfl, rfl, rfl, nix_trans K5.out k9, Nat.le_trans HZ5.out k9.size, i + 1, M, _, HI.out, rfl, rfl, ST5.out.nix k9, k9.owns O5.out (fun _ _ h => h), HLL5.out⟩, ?_⟩
            have := HI.out
            simp [intOf]; omega
      · have e : i = vs.length := by omega
        subst e
        have hl5 : decide (vs.length < vs.length) = false := by simp
        have hml : L.length < 549755813888 := by have h1 := HLL.out; have h4 := HL.out; omega
        have heq := eq_md L
        have SP := Lib.hid (sum_any p L w3 ST3.out (HT.out.nix K3.out) hml)
        have OF : Hid (∀ wx, Kept Nix w3 wx → Calls Tryd.prog 10 #[.slice aa L.length ca] wx fun e w' => e = .returned (.agg (u8s (md L)).toArray) ∧ Kept Nix w3 w') := Lib.hid (fun wx kx =>
          (of_any _ L wx ((sl_of_owns O3.out).nix kx) ST3.out.1 (HT.out.nix (nix_trans K3.out kx)) hml).mono fun _ _ ⟨h1, h2⟩ => ⟨h1, nix_trans kx h2⟩)
        clear hml hi hlt
        generalize (u8s (md L)).toArray = D at *
        go_wp2_with fail
        refine SP.out.mono ?_
        rintro e w6 ⟨rfl, k6⟩
        go_wp2_with fail
        refine (OF.out w6 k6).mono ?_
        rintro e w7 ⟨rfl, k7⟩
        go_wp2_with fail
        go_ret
        exact ⟨rfl, nix_trans K3.out k7⟩

end Go.Proofs.YtfcidddpoofjgaaDoor
