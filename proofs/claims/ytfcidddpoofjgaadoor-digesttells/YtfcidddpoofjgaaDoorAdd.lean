/- The contract of Add. -/
import Derived.Test.YtfcidddpoofjgaaDoorAddWords
namespace Go.Proofs.YtfcidddpoofjgaaDoor
open Go.RowKit Bx Md

def AddInv (p : Nat) (v : Value) (L B : List Nat) (w : World) (a : Act) (w' : World) : Prop :=
  a.defers = [] ∧ a.tmps.size = 49 ∧ a.tmps[0]? = some (.pointer (some ⟨p, 0, none⟩)) ∧ Kept (One p) w w' ∧
    ∃ m v', m ≤ B.length ∧ a.tmps[1]? = some v' ∧ Sl w' v' (u8s (B.drop m)) ∧ v'.ownBlock = v.ownBlock ∧ St w' p (L ++ B.take m)

set_option maxHeartbeats 2000000 in
theorem add_any (p : Nat) (v : Value) (L B : List Nat) (w : World) (hst : St w p L) (hs : Sl w v (u8s B)) (hB : ∀ b ∈ B, b < 256) (hv : 0 < B.length → v.ownBlock ≠ some p) (hp : p ≠ 0) (hT : Tab w) (hl : L.length + B.length < 1099511627776) :
    Calls Tryd.prog 13 #[.pointer (some ⟨p, 0, none⟩), v] w fun e w' => e = .returned (.tuple #[]) ∧ St w' p (L ++ B) ∧ Kept (One p) w w' := by
  have HST := Lib.hid hst
  have HS := Lib.hid hs
  have HB := Lib.hid hB
  have HV := Lib.hid hv
  have HP := Lib.hid hp
  have HT := Lib.hid hT
  have HL := Lib.hid hl
  clear hst hs hB hv hp hT hl
  go_enter Tryd.func13, Tryd.ntmps13
  go_wp2_with fail
  refine wp_loop (AddInv p v L B w) (fun a _ => slen (a.tmps.getD 1 undef)) ?_ ?_
  · exact ⟨rfl, rfl, rfl, Kept.refl _ _, 0, v, Nat.zero_le _, rfl, HS.out, rfl, by simpa using HST.out⟩
  · rintro ⟨tm, df⟩ w1 ⟨rfl, hs, h0, k1, m, v', hm, h1, sl, hown, hst⟩
    simp only at hs h0 h1
    obtain ⟨f, hf, hg⟩ := fr_open hs
    have e0 := hg _ _ h0
    have e1 := hg _ _ h1
    simp only [List.range, List.range.loop, List.map] at hf
    rw [e0, e1] at hf
    clear e0 e1 hg hs h0 h1
    subst hf
    have HSL := Lib.hid sl
    obtain ⟨ao, cap, rfl⟩ := sl.shape
    have HK := Lib.hid k1
    clear sl k1
    by_cases hlt : 0 < (B.drop m).length
    · obtain ⟨hLm, R, hR1, hR2, hR3, hR4⟩ := hst
      obtain ⟨b0, o0, rfl⟩ := HSL.out.where hlt
      have HV : Hid (v.ownBlock ≠ some p) := Lib.hid (HV.out (by simp at hlt; omega))
      have HBd : Hid (∀ b ∈ B.drop m, b < 256) := Lib.hid (fun b hb => HB.out b (List.mem_of_mem_drop hb))
      have HLEN : Hid ((L ++ B.take m).length + (B.drop m).length < 1099511627776) := Lib.hid (by have := HL.out; simp; omega)
      have HEND : Hid (∀ t, t ≤ (B.drop m).length → B.drop (m + t) = (B.drop m).drop t ∧ L ++ B.take (m + t) = (L ++ B.take m) ++ (B.drop m).take t ∧ m + t ≤ B.length) := Lib.hid (by
        intro t ht
        refine ⟨by rw [List.drop_drop], ?_, by simp at ht; omega⟩
        rw [List.append_assoc, List.take_add])
      have HO := Lib.hid hown
      clear hown
      generalize hL1 : L ++ B.take m = L1 at *
      generalize hB1 : B.drop m = B1 at *
      have HL1 := Lib.hid hL1
      have HB1 := Lib.hid hB1
      clear hL1 hB1
      have hk64 : L1.length % 64 < 64 := Nat.mod_lt _ (by decide)
      have hct : w1.cell? ⟨p, 68, none⟩ = some (.int .i64 (L1.length : Int)) := by rw [cell_of hR4]; exact cell_count hR1
      have hrem : (L1.length : Int).tmod 64 = ((L1.length % 64 : Nat) : Int) := by rw [Int.tmod_eq_emod_of_nonneg (by omega)]; omega
      have hrest := fun wx => rest_from wx p (L1.length % 64) hk64
      have HR1 := Lib.hid hR1
      have HR2 := Lib.hid hR2
      have HR3 := Lib.hid hR3
      have HR4 := Lib.hid hR4
      have HLm := Lib.hid hLm
      have hb0 : decide ((0 : Int) < (B1.length : Int)) = true := by simpa using hlt
      have HLT := Lib.hid hlt
      clear hR1 hR2 hR3 hR4 hLm
      generalize hk : L1.length % 64 = k at *
      have HKK := Lib.hid hk
      have HK64 := Lib.hid hk64
      clear hk hk64 hlt
      generalize hn : L1.length = n at *
      have HN := Lib.hid hn
      clear hn
      go_upto_region 1 with fail
      go_still_tail 10, (by kernel_rfl)
      change wpList _ _ _ _ _ w1.drew
      have HK : Hid (Kept (One p) w w1.drew) := Lib.hid HK.out.drew
      have HSL : Hid (Sl w1.drew (.slice (some ⟨b0, o0, none⟩) B1.length cap) (u8s B1)) := Lib.hid HSL.out
      have HR4 : Hid (w1.drew.heap[p]? = _) := Lib.hid HR4.out
      generalize w1.drew = w2 at *
      clear hct hrest
      obtain ⟨t, ht⟩ : ∃ t, t = Nat.min B1.length (64 - k) := ⟨_, rfl⟩
      have ht1 : t ≤ B1.length := by rw [ht]; exact Nat.min_le_left _ _
      have ht2 : t ≤ 64 - k := by rw [ht]; exact Nat.min_le_right _ _
      have hC : (B1.take t).length = t := by simp; omega
      have hsrc : ∀ j u, (u8s (B1.take t))[j]? = some u → w2.cell? ((⟨b0, o0, none⟩ : Addr).add j) = some u := by
        intro j u hu
        rw [← u8s_take, List.getElem?_take] at hu
        split at hu
        · exact (src_u8s HSL.out).2.2.1 _ rfl j u hu
        · cases hu
      have hfit : 4 + k + (u8s (B1.take t)).length ≤ (stCells (dig L1) R n).toArray.size := by
        rw [u8s_length, hC, List.size_toArray, stCells_length _ _ _ HR1.out]
        have := HK64.out
        omega
      refine wpList_cp w2 rfl (.tmp 16) (.tmp 17) 22 22 rfl 5 p (4 + k) (64 - k) (64 - k) ⟨b0, o0, none⟩ B1.length cap _ 49 (u8s (B1.take t)) rfl rfl Tryd.underlying22 size_blk_u8 HR4.out (by rw [u8s_length, hC, ht]) hsrc hfit (u8s_one _) ?_
      rw [stCells_copy (dig L1) R (B1.take t) n k HR1.out (by rw [hC]; have := HK64.out; omega), u8s_length, hC]
      have hh3 : (w2.setRow p (stCells (dig L1) (R.take k ++ B1.take t ++ R.drop (k + t)) n).toArray).heap[p]? = _ := heap_row _ HR4.out
      have hk3 : Kept (One p) w2 (w2.setRow p (stCells (dig L1) (R.take k ++ B1.take t ++ R.drop (k + t)) n).toArray) := (Kept.refl (One p) w2).setRow (.inl (show One p p from rfl)) _
      have hR64 : (R.take k ++ B1.take t ++ R.drop (k + t)).length = 64 := by have := row_length R (B1.take t) k HR1.out (by rw [hC]; have := HK64.out; omega); rwa [hC] at this
      have hR256 : ∀ b ∈ R.take k ++ B1.take t ++ R.drop (k + t), b < 256 := by have := row_lt R (B1.take t) k HR2.out (fun b hb => HBd.out b (List.mem_of_mem_take hb)); rwa [hC] at this
      have htpos : 0 < t := by
        have h1 := HLT.out
        have h2 := HK64.out
        rw [ht]
        exact Nat.lt_min.2 ⟨h1, by omega⟩
      have hmax : t = B1.length ∨ t = 64 - k := by
        rw [ht]
        rcases Nat.le_total B1.length (64 - k) with h | h
        · exact .inl (Nat.min_eq_left h)
        · exact .inr (Nat.min_eq_right h)
      have HSL : Hid (Sl (w2.setRow p (stCells (dig L1) (R.take k ++ B1.take t ++ R.drop (k + t)) n).toArray) (.slice (some ⟨b0, o0, none⟩) B1.length cap) (u8s B1)) := Lib.hid (HSL.out.one hk3 (by rw [HO.out]; exact HV.out))
      have HK : Hid (Kept (One p) w (w2.setRow p (stCells (dig L1) (R.take k ++ B1.take t ++ R.drop (k + t)) n).toArray)) := Lib.hid (HK.out.trans hk3 (fun _ h => h) (fun _ _ h => h))
      generalize w2.setRow p (stCells (dig L1) (R.take k ++ B1.take t ++ R.drop (k + t)) n).toArray = w3 at *
      have HSH : Hid (∀ wx, k + t < 64 → wx.heap[p]? = some (.cells (stCells (dig L1) (R.take k ++ B1.take t ++ R.drop (k + t)) (n + t)).toArray 49 (0, 0)) → St wx p (L1 ++ B1.take t)) := Lib.hid (by
        intro wx h1 h2
        refine st_short wx p L1 R (B1.take t) HLm.out (fun b hb => HBd.out b (List.mem_of_mem_take hb)) HR1.out HR2.out ?_ (by rw [HN.out, HKK.out, hC]; exact h1) ?_
        · rw [HN.out, HKK.out, HR3.out]
        · rw [HN.out, HKK.out, hC]; exact h2)
      have HWH : Hid (∀ wx, k + t = 64 → wx.heap[p]? = some (.cells (stCells (blk (dig L1) (wrds (R.take k ++ B1.take t ++ R.drop (k + t)))) (R.take k ++ B1.take t ++ R.drop (k + t)) (n + t)).toArray 49 (0, 0)) → St wx p (L1 ++ B1.take t)) := Lib.hid (by
        intro wx h1 h2
        refine st_whole wx p L1 R (B1.take t) HLm.out (fun b hb => HBd.out b (List.mem_of_mem_take hb)) HR1.out HR2.out ?_ (by rw [HN.out, HKK.out, hC]; exact h1) ?_
        · rw [HN.out, HKK.out, HR3.out]
        · rw [HN.out, HKK.out, hC]; exact h2)
      generalize hRR : R.take k ++ B1.take t ++ R.drop (k + t) = R3 at *
      clear hRR hsrc hfit hrem
      have hkt : (n + t) % 64 = 0 ↔ k + t = 64 := by have h1 := HKK.out; have h2 := HK64.out; omega
      have hkt2 : ¬ (n + t) % 64 = 0 → k + t < 64 := by intro h; have h2 := HK64.out; omega
      have hnt : n + t < 1099511627776 := by have := HLEN.out; omega
      have HKT := Lib.hid hkt
      have HKT2 := Lib.hid hkt2
      have HNT := Lib.hid hnt
      have HT1 := Lib.hid ht1
      have HTP := Lib.hid htpos
      have HD := Lib.hid (HEND.out t ht1)
      have HR64 := Lib.hid hR64
      have HR256 := Lib.hid hR256
      have HS3 := Lib.hid (HSL.out.drop t ht1)
      have HOV := Lib.hid (own_from (some ⟨b0, o0, none⟩) B1.length cap t (B1.length - t) (cap - t))
      have hf1 := fun wx => run_from wx (some ⟨b0, o0, none⟩) B1.length cap t ht1
      have hf2 := fun wx => run_from_at wx (some ⟨b0, o0, none⟩) B1.length cap t ht1
      have hc3 : w3.cell? ⟨p, 68, none⟩ = some (.int .i64 (n : Int)) := by rw [cell_of hh3]; exact cell_count hR64
      have hz3 : w3.frozen? ⟨p, 68, none⟩ = false := frozen_of hh3
      have hsum : (n : Int) + (t : Int) = ((n + t : Nat) : Int) := by omega
      have hwr : wrap64 ((n + t : Nat) : Int) = ((n + t : Nat) : Int) := by unfold wrap64; omega
      have HH3 := Lib.hid hh3
      have HVL : Hid (slen (Value.slice (if cap = t then some ⟨b0, o0, none⟩ else (some ⟨b0, o0, none⟩ : Option Addr).map (fun x => x.add t)) (B1.length - t) (cap - t)) = B1.length - t) := Lib.hid rfl
      clear hkt hkt2 hnt ht1 ht2 htpos hR64 hR256 hh3 hk3 hC hmax ht
      generalize Value.slice (if cap = t then some ⟨b0, o0, none⟩ else (some ⟨b0, o0, none⟩ : Option Addr).map (fun x => x.add t)) (B1.length - t) (cap - t) = V at *
      generalize hN2 : n + t = N at *
      have HN2 := Lib.hid hN2
      clear hN2
      go_upto_region 3 with fail
      have hh4 := heap_set (i := 68) (u := .int .i64 (N : Int)) HH3.out
      rw [stCells_get_count _ _ _ _ HR64.out] at hh4
      have hk4 : Kept (One p) w3 (w3.setCell ⟨p, 68, none⟩ (.int .i64 (N : Int))) := (Kept.refl (One p) w3).setCell (.inl (show One p p from rfl)) _
      have HS4 := Lib.hid (HS3.out.one hk4 (by rw [HOV.out, HO.out]; exact HV.out))
      have HK4 : Hid (Kept (One p) w (w3.setCell ⟨p, 68, none⟩ (.int .i64 (N : Int)))) := Lib.hid (HK.out.trans hk4 (fun _ h => h) (fun _ _ h => h))
      generalize w3.setCell ⟨p, 68, none⟩ (.int .i64 (N : Int)) = w4 at *
      have hc4 : w4.cell? ⟨p, 68, none⟩ = some (.int .i64 (N : Int)) := by rw [cell_of hh4]; exact cell_count HR64.out
      have HH4 := Lib.hid hh4
      clear hk4 hh4 hc3 hz3
      by_cases hN0 : N % 64 = 0
      · have hd : (((N : Int) % 64) == 0) = true := by simp; omega
        have hN := Lib.hid hN0
        clear hN0
        have hT4 : Tab w4 := HT.out.kept HK4.out (fun h => HP.out h.symm)
        have HT4 := Lib.hid hT4
        clear hT4
        go_upto_region 5 with fail
        refine add_words p (dig L1) R3 N _ w4 _ (dig_fits L1) HR64.out HR256.out HT4.out HH4.out rfl rfl V rfl ?_
        intro tm' w5 hs' h0' h1' hh5 hk5
        have hst5 := HWH.out w5 (HKT.out.1 hN.out) hh5
        refine ⟨⟨rfl, hs', h0', HK4.out.trans hk5 (fun _ h => h) (fun _ _ h => h), m + t, V, HD.out.2.2, h1', ?_, by rw [HOV.out, HO.out], by rw [HD.out.2.1]; exact hst5⟩, ?_⟩
        · rw [HD.out.1, ← u8s_drop]
          exact HS4.out.one hk5 (by rw [HOV.out, HO.out]; exact HV.out)
        · show slen (tm'.getD 1 undef) < B1.length
          rw [Array.getD_eq_getD_getElem?, h1', Option.getD_some, HVL.out]
          have h1 := HTP.out
          have h2 := HT1.out
          omega
      · have hd : (((N : Int) % 64) == 0) = false := by simp; omega
        have hN := Lib.hid hN0
        clear hN0
        go_wp2_with fail
        have hst5 := HSH.out w4 (HKT2.out hN.out) HH4.out
        refine ⟨⟨rfl, rfl, rfl, HK4.out, m + t, V, HD.out.2.2, rfl, ?_, by rw [HOV.out, HO.out], by rw [HD.out.2.1]; exact hst5⟩, ?_⟩
        · rw [HD.out.1, ← u8s_drop]
          exact HS4.out
        · show slen V < B1.length
          rw [HVL.out]
          have h1 := HTP.out
          have h2 := HT1.out
          omega
    · have e : B.drop m = [] := List.eq_nil_of_length_eq_zero (by omega)
      have hb : (B.drop m).length = 0 := by rw [e]; rfl
      have HST2 : Hid (St w1 p (L ++ B)) := Lib.hid (by
        have e2 : B.take m = B := List.take_of_length_le (by have := congrArg List.length e; simp at this; omega)
        rwa [e2] at hst)
      clear hst hlt e hown
      generalize (B.drop m).length = b at *
      subst hb
      go_wp2
      refine bodyPost_end (v := .tuple #[]) (by simp [results, Tryd.results13]) rfl ⟨rfl, HST2.out, HK.out⟩

end Go.Proofs.YtfcidddpoofjgaaDoor
