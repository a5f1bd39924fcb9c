/- The walk of DigestFills, from the reference's contract. -/
import Derived.Test.YtfcidddpoofjgaaDoorLTell5
namespace Go.Proofs.YtfcidddpoofjgaaDoor
open Go.RowKit Bx Md

theorem wrap64_small (m : Nat) (h : m < 256) : wrap64 (m : Int) = (m : Int) := by unfold wrap64; omega

theorem run_one (w : World) (b len cap lo : Nat) (h : lo + 1 ≤ len) (hc : len ≤ cap) :
    (Instr.slice 22 (.slice (some ⟨b, 0, none⟩) len cap) (some (.int .i64 (lo : Int))) (some (.int .i64 ((lo + 1 : Nat) : Int))) none).run Tryd.prog w = .ok (.slice (some ⟨b, lo, none⟩) 1 (cap - lo)) w := by
  have e3 : ¬ cap = lo := by omega
  have e4 : (0 : Int) ≤ ((lo + 1 : Nat) : Int) ∧ ((lo + 1 : Nat) : Int) ≤ (cap : Int) := by omega
  have e5 : (0 : Int) ≤ (lo : Int) ∧ (lo : Int) ≤ ((lo + 1 : Nat) : Int) := by omega
  simp only [Instr.slice, run_underlying Tryd.underlying22, Instr.sliceBounds, Instr.sliceBound, asIntOf, Sem.run_bind, Sem.run_pure, Result.andThen_ok, if_pos e4, Int.toNat_natCast, if_pos e5, size_u8, e3, if_false, Nat.mul_one, Option.map_some, Addr.add_lit]
  rw [show lo + 1 - lo = 1 by omega, Nat.zero_add]
theorem run_one_at (w : World) (b len cap lo : Nat) (h : lo + 1 ≤ len) (hc : len ≤ cap) :
    (Instr.sliceAt 22 (.slice (some ⟨b, 0, none⟩) len cap) (some (.int .i64 (lo : Int))) (some (.int .i64 ((lo + 1 : Nat) : Int))) none).run Tryd.prog w = .ok (.slice (some ⟨b, lo, none⟩) 1 (cap - lo)) w := by
  have ht : Tryd.prog.underlying 22 = some (.slice (Tryd.prog.elem 22)) := by rw [elem_bytes]; exact Tryd.underlying22
  rw [run_sliceAt_slice w 22 _ _ _ _ ht, run_one w b len cap lo h hc]

theorem rep_get (n x i : Nat) (h : i < n) : (List.replicate n x).getD i 0 = x := by simp [List.getD, h]
theorem rep_take (n x i : Nat) (h : i < n) : ((u8s (List.replicate n x)).drop i).take 1 = u8s [x] := by
  rw [u8s_drop, u8s_take]
  congr 1
  rw [List.drop_replicate, List.take_replicate, show min 1 (n - i) = 1 by omega]
  rfl

def FI1 (w w1 : World) (n x g : Nat) (a : Act) (w' : World) : Prop :=
  a.defers = [] ∧ a.tmps.size = 56 ∧ a.tmps[1]? = some (.int .u8 (x : Int)) ∧ a.tmps[5]? = some (.bool true) ∧ a.tmps[6]? = some (.int .i64 (n : Int)) ∧ a.tmps[7]? = some (.slice (some ⟨g, 0, none⟩) n n) ∧ Kept Nix w w' ∧
    ∃ i, i ≤ n ∧ a.tmps[8]? = some (.int .i64 ((i : Nat) : Int)) ∧ w'.ownsRow w1.heap.size 5 1 (.slice (some ⟨g, 0, none⟩) n n) n (u8s (half (List.replicate n x) n i))

def FI2 (w w1 : World) (n x g p : Nat) (a : Act) (w' : World) : Prop :=
  a.defers = [] ∧ a.tmps.size = 56 ∧ a.tmps[5]? = some (.bool true) ∧ a.tmps[6]? = some (.int .i64 (n : Int)) ∧ a.tmps[7]? = some (.slice (some ⟨g, 0, none⟩) n n) ∧ a.tmps[9]? = some (.pointer (some ⟨p, 0, none⟩)) ∧ Kept Nix w w' ∧
    w'.ownsRow w1.heap.size 5 1 (.slice (some ⟨g, 0, none⟩) n n) n (u8s (List.replicate n x)) ∧ ∃ i, i ≤ n ∧ a.tmps[10]? = some (.int .i64 ((i : Nat) : Int)) ∧ St w' p (List.replicate i x)

set_option maxHeartbeats 2000000 in
theorem walk_fills (R : RofSpec) (w : World) (hT : Tab w) (a0 : Int) (h0 : (Lit.int .u8 a0).wf = true) (a1 : Int) (h1 : (Lit.int .u8 a1).wf = true) :
    Calls Tryd.prog 7 #[.int .u8 a0, .int .u8 a1] w fun e w' => e = .returned (.bool true) ∧ Kept Nix w w' := by
  have HA := Lib.hid (awake_any w hT)
  have HT := Lib.hid hT
  have HR := Lib.hid R
  obtain ⟨m, rfl, hm⟩ := nat_u8 h0
  obtain ⟨x, rfl, hx⟩ := nat_u8 h1
  have HX := Lib.hid hx
  have hmw : wrap64 (m : Int) = (m : Int) := wrap64_small m hm
  have hr : (m : Int) % 201 = ((m % 201 : Nat) : Int) := by omega
  have HN : Hid (m % 201 ≤ 200) := Lib.hid (by omega)
  have hrt : (m : Int).tmod 201 = ((m % 201 : Nat) : Int) := by rw [Int.tmod_eq_emod_of_nonneg (by omega)]; omega
  clear h0 h1 hT R hm hx
  generalize m % 201 = n at *
  go_enter Tryd.func7, Tryd.ntmps7
  go_wp2_with fail
  refine HA.out.mono ?_
  rintro e w1 ⟨rfl, k1⟩
  have hmk := make_room w1 n n (Nat.le_refl _) (by have := HN.out; omega)
  have K1 := Lib.hid k1
  clear k1
  go_upto_region 4 with fail
  have k12 : Kept Nix w1 (w1.alloc (.cells (u8s (List.replicate n 0)).toArray 5)) := (Kept.refl _ _).alloc _
  have o2 : (w1.alloc (.cells (u8s (List.replicate n 0)).toArray 5)).ownsRow w1.heap.size 5 1 (.slice (some ⟨w1.heap.size, 0, none⟩) n n) n (u8s (half (List.replicate n x) n 0)) := by
    refine ⟨by simp [u8s, half], .inr ⟨w1.heap.size, n, _, rfl, Nat.le_refl _, heap_alloc_new w1 _, Nat.le_refl _, by have := HN.out; unfold maxLen; omega, by simp [u8s], ?_⟩⟩
    simp [u8s, half]
  have K2 := Lib.hid (nix_trans K1.out k12)
  have O2 := Lib.hid o2
  have HZ2 : Hid (w1.heap.size < (w1.alloc (.cells (u8s (List.replicate n 0)).toArray 5)).heap.size) := Lib.hid (by simp)
  clear k12 o2 hmk hr hrt hmw
  generalize w1.alloc (.cells (u8s (List.replicate n 0)).toArray 5) = w2 at *
  have HG : Hid (w.heap.size ≤ w1.heap.size ∧ w1.heap.size ≠ 0) := Lib.hid ⟨K1.out.size, by have h1 := K1.out.size; have h2 := HT.out.pos; omega⟩
  generalize hgg : w1.heap.size = g at *
  have HGG := Lib.hid hgg
  clear hgg
  go_wp2_with fail
  refine wp_loop (FI1 w w1 n x g) (fun a _ => n - (intOf (a.tmps.getD 8 undef)).toNat) ?_ ?_
  · exact ⟨rfl, rfl, rfl, rfl, rfl, rfl, K2.out, 0, Nat.zero_le _, rfl, by rw [HGG.out]; exact O2.out⟩
  · clear O2 K2 HZ2
    rintro ⟨tm, df⟩ w3 ⟨rfl, hs, h1, h5, h6, h7, k3, i, hi, h8, o3⟩
    simp only at hs h1 h5 h6 h7 h8
    obtain ⟨f, hf, hg⟩ := fr_open hs
    have e1 := hg _ _ h1
    have e5 := hg _ _ h5
    have e6 := hg _ _ h6
    have e7 := hg _ _ h7
    have e8 := hg _ _ h8
    simp only [List.range, List.range.loop, List.map] at hf
    rw [e1, e5, e6, e7, e8] at hf
    clear e1 e5 e6 e7 e8 hg hs h1 h5 h6 h7 h8
    subst hf
    have K3 := Lib.hid k3
    have O3 := Lib.hid o3
    clear k3
    by_cases hlt : i < n
    · have hi1 : (i : Int) < (n : Int) := by omega
      have hi3 : (i : Int) < 200 := by have := HN.out; omega
      have hdx := o3.cellAt i (by omega)
      have hfz := o3.frozenAt i
      have hst := fun u => (o3.stored i u).1
      have HSET := Lib.hid (half_step (List.replicate n x) n i (by simp) hlt)
      rw [u8s_get _ _ (by rw [half_length _ _ _ (by simp) hi]; exact hlt)] at hdx
      have HST := Lib.hid hst
      have HI := Lib.hid hlt
      have HRG := Lib.hid (rep_get n x i hlt)
      clear hst o3 hlt hi
      generalize (half (List.replicate n x) n i).getD i 0 = old at *
      go_wp2_with fail
      refine ⟨⟨rfl, rfl, rfl, rfl, rfl, rfl, K3.out.setCell (.inr HG.out.1) _, i + 1, HI.out, rfl, ?_⟩, ?_⟩
      · have h := HST.out (.int .u8 (x : Int))
        rw [u8s_set] at h
        have e := HSET.out
        rw [HRG.out] at e
        rw [e] at h
        exact h
      · have := HI.out
        simp [intOf]; omega
    · have e : i = n := by omega
      subst e
      have hl5 : decide (i < i) = false := by simp
      rw [half_all _ _ (by simp)] at o3
      have O4 := Lib.hid o3
      have HNW := Lib.hid (new_any w3)
      clear hlt hi o3
      go_wp2_with fail
      refine HNW.out.mono ?_
      rintro e w4 ⟨rfl, st4, k4⟩
      have hgp : g < w3.heap.size ∨ i = 0 := by
        by_cases h0 : 0 < i
        · obtain ⟨g', c', e, _, _, _, hh⟩ := owns_pos O4.out h0
          simp only [Value.slice.injEq, Option.some.injEq, Addr.mk.injEq, and_true] at e
          obtain ⟨⟨rfl⟩, _⟩ := e
          exact .inl hh
        · exact .inr (by omega)
      have HGP := Lib.hid hgp
      have HP : Hid (w.heap.size ≤ w3.heap.size ∧ w3.heap.size ≠ 0) := Lib.hid ⟨K3.out.size, by have h1 := K3.out.size; have h2 := HT.out.pos; omega⟩
      have K4 := Lib.hid (nix_trans K3.out k4)
      have ST4 := Lib.hid st4
      have O5 := Lib.hid (k4.owns O4.out (fun _ _ h => h))
      clear st4 k4 hgp O4 O3 HNW
      generalize w3.heap.size = p at *
      go_wp2_with fail
      refine wp_loop (FI2 w w1 i x g p) (fun a _ => i - (intOf (a.tmps.getD 10 undef)).toNat) ?_ ?_
      · exact ⟨rfl, rfl, rfl, rfl, rfl, rfl, K4.out, O5.out, 0, Nat.zero_le _, rfl, ST4.out⟩
      · clear K4 O5 ST4
        rintro ⟨tm, df⟩ w5 ⟨rfl, hs, h5, h6, h7, h9, k5, o5, j, hj, h10, st5⟩
        simp only at hs h5 h6 h7 h9 h10
        obtain ⟨f2, hf, hg⟩ := fr_open hs
        have e5 := hg _ _ h5
        have e6 := hg _ _ h6
        have e7 := hg _ _ h7
        have e9 := hg _ _ h9
        have e10 := hg _ _ h10
        simp only [List.range, List.range.loop, List.map] at hf
        rw [e5, e6, e7, e9, e10] at hf
        clear e5 e6 e7 e9 e10 hg hs h5 h6 h7 h9 h10
        subst hf
        have K5 := Lib.hid k5
        have O5 := Lib.hid o5
        have ST5 := Lib.hid st5
        by_cases hlt : j < i
        · have hj1 : (j : Int) < (i : Int) := by omega
          have hj3 : (j : Int) < 200 := by have := HN.out; omega
          have hjs : (j : Int) + 1 = ((j + 1 : Nat) : Int) := by omega
          have hf1 := fun wx => run_one wx g i i j hlt (Nat.le_refl _)
          have hf2 := fun wx => run_one_at wx g i i j hlt (Nat.le_refl _)
          have sv := (sl_of_owns o5).part j 1 (by rw [u8s_length, List.length_replicate]; omega) (by decide)
          rw [rep_take i x j hlt, Nat.zero_add] at sv
          have hgne : g ≠ p := by have h1 := HGP.out; omega
          have A1 := Lib.hid (add_any p _ (List.replicate j x) [x] w5 st5 sv (by intro b hb; rw [List.mem_singleton.1 hb]; exact HX.out) (fun _ => by simp only [Value.ownBlock, ne_eq, Option.some.injEq]; exact hgne) HP.out.2 (HT.out.nix k5) (by have := HN.out; simp; omega))
          have HGN := Lib.hid hgne
          have HJ := Lib.hid hlt
          clear hlt hj k5 o5 st5 sv hgne
          generalize hjj : j + 1 = j1 at *
          have HJ1 := Lib.hid hjj
          clear hjj
          generalize Value.slice (some ⟨g, j, none⟩) 1 (i - j) = V at *
          go_wp2_with fail
          refine A1.out.mono ?_
          rintro e w6 ⟨rfl, st6, k6⟩
          have st6 : St w6 p (List.replicate (j + 1) x) := by rw [List.replicate_succ']; exact st6
          have K6 : Hid (Kept Nix w w6) := Lib.hid (nix_put K5.out k6 (fun q hq => by rw [show q = p from hq]; exact HP.out.1))
          have O6 := Lib.hid (k6.owns O5.out (fun k hk e => HGN.out (by have h1 : some g = some k := hk; have e1 : k = p := e; simp only [Option.some.injEq] at h1; omega)))
          have ST6 := Lib.hid st6
          clear st6 k6 A1 hf1 hf2
          go_wp2_with fail
          refine ⟨⟨rfl, rfl, rfl, rfl, rfl, rfl, K6.out, O6.out, j + 1, HJ.out, ?_, ST6.out⟩, ?_⟩
          · rw [HJ1.out]; rfl
          · have h1 := HJ.out
            have h2 := HJ1.out
            simp [intOf]; omega
        · have e : j = i := by omega
          subst e
          have hl6 : decide (j < j) = false := by simp
          have HBX : Hid (∀ b ∈ List.replicate j x, b < 256) := Lib.hid (by intro b hb; rw [(List.mem_replicate.1 hb).2]; exact HX.out)
          have hlen : (List.replicate j x).length = j := by simp
          have heq := eq_md (List.replicate j x)
          have SP := Lib.hid (sum_any p (List.replicate j x) w5 st5 (HT.out.nix k5) (by rw [hlen]; have := HN.out; omega))
          have OF : Hid (∀ wx, Kept Nix w5 wx → Calls Tryd.prog 10 #[.slice (some ⟨g, 0, none⟩) j j] wx fun e w' => e = .returned (.agg (u8s (md (List.replicate j x))).toArray) ∧ Kept Nix w5 w') := Lib.hid (fun wx kx =>
            (of_any _ _ wx ((sl_of_owns O5.out).nix kx) HBX.out (HT.out.nix (nix_trans K5.out kx)) (by rw [hlen]; have := HN.out; omega)).mono fun _ _ ⟨h1, h2⟩ => ⟨h1, nix_trans kx h2⟩)
          have RR : Hid (∀ wx, Kept Nix w5 wx → Calls Tryd.prog 11 #[.slice (some ⟨g, 0, none⟩) j j] wx fun e w' => e = .returned (.agg (u8s (md (List.replicate j x))).toArray) ∧ Kept Nix w5 w') := Lib.hid (fun wx kx =>
            (HR.out _ _ wx ((sl_of_owns O5.out).nix kx) HBX.out (by rw [hlen]; have := HN.out; omega)).mono fun _ _ ⟨h1, h2⟩ => ⟨h1, nix_trans kx h2⟩)
          clear hlt hj k5 o5 st5 hlen
          generalize (u8s (md (List.replicate j x))).toArray = M at *
          go_wp2_with fail
          refine SP.out.mono ?_
          rintro e w6 ⟨rfl, k6⟩
          go_wp2_with fail
          refine (RR.out w6 k6).mono ?_
          rintro e w7 ⟨rfl, k7⟩
          go_wp2_with fail
          refine (OF.out w7 k7).mono ?_
          rintro e w8 ⟨rfl, k8⟩
          go_wp2_with fail
          refine (RR.out w8 k8).mono ?_
          rintro e w9 ⟨rfl, k9⟩
          go_wp2_with fail
          go_ret
          exact ⟨rfl, nix_trans K5.out k9⟩

end Go.Proofs.YtfcidddpoofjgaaDoor
