/- The walk of DigestCuts. -/
import Derived.Test.YtfcidddpoofjgaaDoorDigEq
import Derived.Test.YtfcidddpoofjgaaDoorArgs
namespace Go.Proofs.YtfcidddpoofjgaaDoor
open Go.RowKit Bx Md

theorem run_to (w : World) (ao : Option Addr) (len cap k : Nat) (h : k ≤ cap) : (Instr.slice 22 (.slice ao len cap) none (some (.int .i64 (k : Int))) none).run Tryd.prog w = .ok (.slice ao k cap) w := by
  have e : (if cap = 0 then ao else ao.map (fun x => x.add 0)) = ao := by
    split
    · rfl
    · cases ao with
      | none => rfl
      | some a => simp [Addr.add]
  simp [Instr.slice, run_underlying Tryd.underlying22, Instr.sliceBounds, Instr.sliceBound, asIntOf, Sem.run_bind, h]
  simpa using e

theorem run_to_at (w : World) (ao : Option Addr) (len cap k : Nat) (h : k ≤ cap) : (Instr.sliceAt 22 (.slice ao len cap) none (some (.int .i64 (k : Int))) none).run Tryd.prog w = .ok (.slice ao k cap) w := by
  have ht : Tryd.prog.underlying 22 = some (.slice (Tryd.prog.elem 22)) := by rw [elem_bytes]; exact Tryd.underlying22
  rw [run_sliceAt_slice w 22 _ _ _ _ ht, run_to w ao len cap k h]

set_option maxHeartbeats 1000000 in
theorem walk_DigestCuts (w : World) (hT : Tab w) (v : Value) (zs : List Int) (s : Sl w v (zs.map (Value.int .u8))) (hz : ∀ n ∈ zs, (Lit.int .u8 n).wf = true) (a1 : Int) (h1 : (Lit.int .u8 a1).wf = true) (a2 : Int) (h2 : (Lit.int .u8 a2).wf = true) :
    Calls Tryd.prog 8 #[v, .int .u8 a1, .int .u8 a2] w fun e w' => e = .returned (.bool true) ∧ Kept Nix w w' := by
  have HA := Lib.hid (awake_any w hT)
  have HT := Lib.hid hT
  obtain ⟨B, hs, hB, -⟩ := s.nats hz
  obtain ⟨a, rfl, ha⟩ := nat_u8 h1
  obtain ⟨c, rfl, hc⟩ := nat_u8 h2
  clear s hz h1 h2 hT
  obtain ⟨ao, cap, rfl⟩ := hs.shape
  have HS := Lib.hid hs
  have HB := Lib.hid hB
  clear hs hB
  by_cases hlen : 200 < (B.length : Int)
  · go_enter Tryd.func8, Tryd.ntmps8
    go_wp2_with fail
    refine HA.out.mono ?_
    rintro e w1 ⟨rfl, k1⟩
    go_wp2_with fail
    go_ret
    exact ⟨rfl, k1⟩
  · have hl2 : decide (200 < (B.length : Int)) = false := by simpa using hlen
    have HL : Hid (B.length ≤ 200) := Lib.hid (by omega)
    clear hlen
    go_enter Tryd.func8, Tryd.ntmps8
    go_wp2_with fail
    refine HA.out.mono ?_
    rintro e w1 ⟨rfl, k1⟩
    have H1 := Lib.hid (new_any w1)
    have K1 := Lib.hid k1
    clear k1
    go_wp2_with fail
    refine H1.out.mono ?_
    rintro e w2 ⟨rfl, st2, k2⟩
    have H2 := Lib.hid (new_any w2)
    have K2 := Lib.hid (nix_trans K1.out k2)
    have ST2 := Lib.hid st2
    have hp1 : w.heap.size ≤ w1.heap.size := K1.out.size
    have hlt2 := st2.lt
    have hpos := HT.out.pos
    have HP1 : Hid (w.heap.size ≤ w1.heap.size ∧ w1.heap.size ≠ 0 ∧ w1.heap.size < w2.heap.size) := Lib.hid ⟨hp1, by omega, hlt2⟩
    clear st2 k2 hp1 hlt2 hpos
    generalize hs1 : w1.heap.size = p at *
    clear hs1
    go_wp2_with fail
    refine H2.out.mono ?_
    rintro e w3 ⟨rfl, st3, k3⟩
    have K3 := Lib.hid (nix_trans K2.out k3)
    have S3 := Lib.hid (ST2.out.nix k3)
    have T3 := Lib.hid st3
    have HP2 : Hid (w.heap.size ≤ w2.heap.size ∧ w2.heap.size ≠ 0 ∧ p ≠ w2.heap.size) := Lib.hid ⟨K2.out.size, by have := HP1.out; omega, by have := HP1.out; omega⟩
    clear st3 k3
    generalize hs2 : w2.heap.size = r at *
    clear hs2
    have hsum : (B.length : Int) + 1 = ((B.length + 1 : Nat) : Int) := by omega
    have hn0 : (((B.length + 1 : Nat) : Int) == 0) = false := by simp; omega
    have hr1 : (a : Int).tmod ((B.length + 1 : Nat) : Int) = ((a % (B.length + 1) : Nat) : Int) := by rw [Int.tmod_eq_emod_of_nonneg (by omega), Int.natCast_emod]
    have hr2 : (c : Int).tmod ((B.length + 1 : Nat) : Int) = ((c % (B.length + 1) : Nat) : Int) := by rw [Int.tmod_eq_emod_of_nonneg (by omega), Int.natCast_emod]
    have hr1' : (a : Int) % ((B.length + 1 : Nat) : Int) = ((a % (B.length + 1) : Nat) : Int) := by rw [Int.natCast_emod]
    have hr2' : (c : Int) % ((B.length + 1 : Nat) : Int) = ((c % (B.length + 1) : Nat) : Int) := by rw [Int.natCast_emod]
    have hi : a % (B.length + 1) ≤ B.length := Nat.le_of_lt_succ (Nat.mod_lt _ (by omega))
    have hk : c % (B.length + 1) ≤ B.length := Nat.le_of_lt_succ (Nat.mod_lt _ (by omega))
    have HN : Hid (B.length + 1 ≤ 201) := Lib.hid (by have := HL.out; omega)
    have hcap := HS.out.cap
    have hwa : wrap64 (a : Int) = (a : Int) := by unfold wrap64; omega
    have hwc : wrap64 (c : Int) = (c : Int) := by unfold wrap64; omega
    have hw1 : wrap64 ((B.length + 1 : Nat) : Int) = ((B.length + 1 : Nat) : Int) := by have := HL.out; unfold wrap64; omega
    generalize hn1 : B.length + 1 = n1 at *
    clear hn1
    generalize a % n1 = i at *
    generalize c % n1 = k at *
    have HI := Lib.hid hi
    have HK := Lib.hid hk
    have HC := Lib.hid hcap
    clear hi hk hcap ha hc
    go_upto_region 10 with fail
    clear hsum hn0 hr1 hr2 hr1' hr2' hw1 hwa hwc
    have ADD : Hid (∀ (wx : World) (q : Nat) (L : List Nat) (t : Nat), t ≤ B.length → Kept Nix w wx → w.heap.size ≤ q ∧ q ≠ 0 → L.length ≤ 200 → St wx q L →
        (∀ V, Sl w V (u8s (B.take t)) → Calls Tryd.prog 13 #[.pointer (some ⟨q, 0, none⟩), V] wx fun e w' => e = .returned (.tuple #[]) ∧ St w' q (L ++ B.take t) ∧ Kept (One q) wx w' ∧ Kept Nix w w') ∧
        (∀ V, Sl w V (u8s (B.drop t)) → Calls Tryd.prog 13 #[.pointer (some ⟨q, 0, none⟩), V] wx fun e w' => e = .returned (.tuple #[]) ∧ St w' q (L ++ B.drop t) ∧ Kept (One q) wx w' ∧ Kept Nix w w')) := Lib.hid (by
      intro wx q L t ht kx hq hL stx
      have hlen := HL.out
      constructor
      · intro V hV
        exact (add_any q V L (B.take t) wx stx (hV.nix kx) (fun b hb => HB.out b (List.mem_of_mem_take hb)) (hV.apart hq.1) hq.2 (HT.out.nix kx) (by simp; omega)).mono fun _ _ ⟨h1, h2, h3⟩ => ⟨h1, h2, h3, nix_put kx h3 (fun j hj => by rw [show j = q from hj]; exact hq.1)⟩
      · intro V hV
        exact (add_any q V L (B.drop t) wx stx (hV.nix kx) (fun b hb => HB.out b (List.mem_of_mem_drop hb)) (hV.apart hq.1) hq.2 (HT.out.nix kx) (by simp; omega)).mono fun _ _ ⟨h1, h2, h3⟩ => ⟨h1, h2, h3, nix_put kx h3 (fun j hj => by rw [show j = q from hj]; exact hq.1)⟩)
    have HPa : Hid (w.heap.size ≤ p ∧ p ≠ 0) := Lib.hid ⟨HP1.out.1, HP1.out.2.1⟩
    have HPb : Hid (w.heap.size ≤ r ∧ r ≠ 0) := Lib.hid ⟨HP2.out.1, HP2.out.2.1⟩
    -- the first state
    have hf1 := fun wx => run_to_at wx ao B.length cap i (Nat.le_trans HI.out HC.out.1)
    have hf1' := fun wx => run_to wx ao B.length cap i (Nat.le_trans HI.out HC.out.1)
    have hg1 := fun wx => run_from wx ao B.length cap i HI.out
    have hg1' := fun wx => run_from_at wx ao B.length cap i HI.out
    have sA := HS.out.take i HI.out
    have sB := HS.out.drop i HI.out
    rw [u8s_take] at sA
    rw [u8s_drop] at sB
    generalize Value.slice ao i cap = V1 at *
    generalize Value.slice (if cap = i then ao else ao.map (fun x => x.add i)) (B.length - i) (cap - i) = V2 at *
    have A1 := Lib.hid ((ADD.out w3 p [] i HI.out K3.out HPa.out (by simp) S3.out).1 V1 sA)
    go_wp2_with fail
    refine A1.out.mono ?_
    rintro e w4 ⟨rfl, st4, k4, k04⟩
    have A2 := Lib.hid ((ADD.out w4 p ([] ++ B.take i) i HI.out k04 HPa.out (by have := HL.out; simp; omega) st4).2 V2 sB)
    have T4 := Lib.hid (T3.out.kept k4 (fun h => HP2.out.2.2 (show r = p from h).symm))
    clear st4 k4 k04 A1
    go_wp2_with fail
    refine A2.out.mono ?_
    rintro e w5 ⟨rfl, st5, k5, k05⟩
    rw [List.nil_append, List.take_append_drop] at st5
    have S5 := Lib.hid st5
    have T5 := Lib.hid (T4.out.kept k5 (fun h => HP2.out.2.2 (show r = p from h).symm))
    have K5 := Lib.hid k05
    clear st5 k5 k05 A2 hf1 hf1' hg1 hg1' sA sB
    -- the second one
    have hf1 := fun wx => run_to_at wx ao B.length cap k (Nat.le_trans HK.out HC.out.1)
    have hf1' := fun wx => run_to wx ao B.length cap k (Nat.le_trans HK.out HC.out.1)
    have hg1 := fun wx => run_from wx ao B.length cap k HK.out
    have hg1' := fun wx => run_from_at wx ao B.length cap k HK.out
    have sA := HS.out.take k HK.out
    have sB := HS.out.drop k HK.out
    rw [u8s_take] at sA
    rw [u8s_drop] at sB
    generalize Value.slice ao k cap = V3 at *
    generalize Value.slice (if cap = k then ao else ao.map (fun x => x.add k)) (B.length - k) (cap - k) = V4 at *
    have A1 := Lib.hid ((ADD.out w5 r [] k HK.out K5.out HPb.out (by simp) T5.out).1 V3 sA)
    go_wp2_with fail
    refine A1.out.mono ?_
    rintro e w6 ⟨rfl, st6, k6, k06⟩
    have A2 := Lib.hid ((ADD.out w6 r ([] ++ B.take k) k HK.out k06 HPb.out (by have := HL.out; simp; omega) st6).2 V4 sB)
    have S6 := Lib.hid (S5.out.kept k6 (fun h => HP2.out.2.2 h))
    clear st6 k6 k06 A1
    go_wp2_with fail
    refine A2.out.mono ?_
    rintro e w7 ⟨rfl, st7, k7, k07⟩
    rw [List.nil_append, List.take_append_drop] at st7
    have S7 := Lib.hid (S6.out.kept k7 (fun h => HP2.out.2.2 h))
    have T7 := Lib.hid st7
    have K7 := Lib.hid k07
    clear st7 k7 k07 A2 hf1 hf1' hg1 hg1' sA sB
    have heq := eq_md B
    have SP : Hid (∀ wx, Kept Nix w7 wx → Calls Tryd.prog 15 #[.pointer (some ⟨p, 0, none⟩)] wx fun e w' => e = .returned (.agg (u8s (md B)).toArray) ∧ Kept Nix w7 w') := Lib.hid (fun wx kx =>
      (sum_any p B wx (S7.out.nix kx) (HT.out.nix (nix_trans K7.out kx)) (by have := HL.out; omega)).mono fun _ _ ⟨h1, h2⟩ => ⟨h1, nix_trans kx h2⟩)
    have SR : Hid (∀ wx, Kept Nix w7 wx → Calls Tryd.prog 15 #[.pointer (some ⟨r, 0, none⟩)] wx fun e w' => e = .returned (.agg (u8s (md B)).toArray) ∧ Kept Nix w7 w') := Lib.hid (fun wx kx =>
      (sum_any r B wx (T7.out.nix kx) (HT.out.nix (nix_trans K7.out kx)) (by have := HL.out; omega)).mono fun _ _ ⟨h1, h2⟩ => ⟨h1, nix_trans kx h2⟩)
    have OF : Hid (∀ wx, Kept Nix w7 wx → Calls Tryd.prog 10 #[.slice ao B.length cap] wx fun e w' => e = .returned (.agg (u8s (md B)).toArray) ∧ Kept Nix w7 w') := Lib.hid (fun wx kx =>
      (of_any _ B wx (HS.out.nix (nix_trans K7.out kx)) HB.out (HT.out.nix (nix_trans K7.out kx)) (by have := HL.out; omega)).mono fun _ _ ⟨h1, h2⟩ => ⟨h1, nix_trans kx h2⟩)
    have LP : Hid (∀ wx, Kept Nix w7 wx → Calls Tryd.prog 14 #[.pointer (some ⟨p, 0, none⟩)] wx fun e w' => e = .returned (.int .i64 (B.length : Int)) ∧ wx = w') := Lib.hid (fun wx kx => len_any p B wx (S7.out.nix kx))
    have LR : Hid (∀ wx, Kept Nix w7 wx → Calls Tryd.prog 14 #[.pointer (some ⟨r, 0, none⟩)] wx fun e w' => e = .returned (.int .i64 (B.length : Int)) ∧ wx = w') := Lib.hid (fun wx kx => len_any r B wx (T7.out.nix kx))
    generalize (u8s (md B)).toArray = M at *
    go_wp2_with fail
    refine (SP.out w7 (Kept.refl _ _)).mono ?_
    rintro e w8 ⟨rfl, k8⟩
    go_wp2_with fail
    refine (SR.out w8 k8).mono ?_
    rintro e w9 ⟨rfl, k9⟩
    go_wp2_with fail
    refine (LP.out w9 k9).mono ?_
    rintro e w9' ⟨rfl, rfl⟩
    go_wp2_with fail
    refine (LR.out _ k9).mono ?_
    rintro e w9' ⟨rfl, rfl⟩
    go_wp2_with fail
    refine (SP.out _ k9).mono ?_
    rintro e w10 ⟨rfl, k10⟩
    go_wp2_with fail
    refine (OF.out w10 k10).mono ?_
    rintro e w11 ⟨rfl, k11⟩
    go_wp2_with fail
    go_ret
    exact ⟨rfl, nix_trans K7.out k11⟩

end Go.Proofs.YtfcidddpoofjgaaDoor
