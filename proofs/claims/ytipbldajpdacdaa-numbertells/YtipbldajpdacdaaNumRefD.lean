/- The contract of the reference's Decode. -/
import Derived.Test.YtipbldajpdacdaaNumRef
import Derived.Test.YtipbldajpdacdaaNumOrd
import Derived.Deep.RegionHeld3
namespace Go.Proofs.Ytipbldajpdacdaa
open Go.RowKit Bx Nm

/-- The reference's size, by the first byte. -/
def szr (b : Nat) : Nat := min 7 (max 1 (ones b))

theorem lead_ones (b s : Nat) (h2 : 2 ≤ s) (h7 : s ≤ 7) : b < lead s ↔ ones b < s := by
  have h := ones_iff b
  have hs : s = 2 ∨ s = 3 ∨ s = 4 ∨ s = 5 ∨ s = 6 ∨ s = 7 := by omega
  generalize ones b = o at *
  rcases hs with rfl | rfl | rfl | rfl | rfl | rfl <;> simp only [lead] <;> omega

/-- An answer of the reference's Decode. -/
def RDecIs (x : Nat × Nat × Nat) (w : World) (e : Ending) (w' : World) : Prop := e = .returned (.tuple #[.int .i64 (x.1 : Int), .int .i64 (x.2.1 : Int), .int .i64 (x.2.2 : Int)]) ∧ Kept Nix w w'

theorem first_back (x : Nat) (ho : ¬ (ones x = 1 ∨ ones x = 8)) : lead (szr x) + x % 2 ^ (7 - ones x) = x := by
  have h := ones_iff x
  have c : ones x = 0 ∧ x < 128 ∨ ones x = 2 ∧ 192 ≤ x ∧ x < 224 ∨ ones x = 3 ∧ 224 ≤ x ∧ x < 240 ∨ ones x = 4 ∧ 240 ≤ x ∧ x < 248 ∨ ones x = 5 ∧ 248 ≤ x ∧ x < 252 ∨ ones x = 6 ∧ 252 ≤ x ∧ x < 254 ∨ ones x = 7 ∧ 254 ≤ x ∧ x < 255 := by omega
  unfold szr
  rcases c with ⟨e, l⟩ | ⟨e, l⟩ | ⟨e, l⟩ | ⟨e, l⟩ | ⟨e, l⟩ | ⟨e, l⟩ | ⟨e, l⟩ <;> rw [e] <;> simp [lead] <;> omega

theorem wrap_six (n c : Nat) (hn : n < 8796093022208) (hc : c / 64 = 2) : wrap64 (wrap64 (64 * (n : Int) + (c : Int)) - 128) = ((n * 64 + c % 64 : Nat) : Int) := by
  unfold wrap64
  omega

def RDecIn1 (v : Value) (b : Nat) (w : World) (a : Act) (w' : World) : Prop :=
  a.defers = [] ∧ a.tmps.size = 85 ∧ a.tmps[0]? = some v ∧ ∃ s : Nat, szr b ≤ s ∧ s ≤ 7 ∧ a.tmps[5]? = some (.int .i64 ((s : Nat) : Int)) ∧ Kept Nix w w'

def RDecMid (v : Value) (b : Nat) (w : World) (a : Act) (w' : World) : Prop :=
  a.defers = [] ∧ a.tmps.size = 85 ∧ a.tmps[0]? = some v ∧ a.tmps[5]? = some (.int .i64 ((szr b : Nat) : Int)) ∧ Kept Nix w w'

def RDecInv (v : Value) (B : List Nat) (s : Nat) (X : Nat × Nat) (w : World) (a : Act) (w' : World) : Prop :=
  a.defers = [] ∧ a.tmps.size = 85 ∧ a.tmps[0]? = some v ∧ a.tmps[5]? = some (.int .i64 (s : Int)) ∧ ∃ i n, 1 ≤ i ∧ i ≤ s ∧ i ≤ B.length ∧ n < 2 ^ (6 * i + 1) ∧ a.tmps[6]? = some (.int .i64 ((n : Nat) : Int)) ∧ a.tmps[7]? = some (.int .i64 ((i : Nat) : Int)) ∧
    X = tl (s - i) n (B.drop i) ∧ Kept Nix w w'

set_option maxHeartbeats 2000000 in
theorem refDecode_any (v : Value) (B : List Nat) (w : World) (h : Sl w v (u8s B)) (hB : ∀ b ∈ B, b < 256) (hl : B.length < 1099511627776) : Calls Try.prog 13 #[v] w (RDecIs (dec B) w) := by
  cases B with
  | nil =>
    obtain ⟨ao, cap, rfl⟩ := h.shape
    have HP : Hid (∀ e, e = Ending.returned (.tuple #[.int .i64 0, .int .i64 0, .int .i64 2]) → RDecIs (dec []) w e w) := Lib.hid (fun e he => ⟨he, Kept.refl _ _⟩)
    clear h hB hl
    simp only [List.length_nil]
    go_enter Try.func13, Try.ntmps13
    go_wp2
    go_ret3
    exact HP.out _ rfl
  | cons b r =>
    have hb : b < 256 := hB b (by simp)
    have HSL := Lib.hid h
    obtain ⟨bl, off, cap, rfl, hcap, hmax, hcell⟩ := h.cells (by simp)
    have hc0 := hcell 0 (by simp)
    simp only [List.getD_cons_zero, Nat.add_zero] at hc0
    have HCELL := Lib.hid (fun w' (hk : Kept Nix w w') => (HSL.out.nix hk).cells (by simp))
    have HBB := Lib.hid hB
    have hC0 : Hid (∀ w', Kept Nix w w' → w'.cell? ⟨bl, off, none⟩ = some (.int .u8 (b : Int))) := Lib.hid (fun w' hk => by
      have h2 := World.block_lt_of_cell? w _ hc0
      exact (World.cell?_of_block (hk.block bl h2 (fun h => h))).trans hc0)
    have hlen : (0 : Int) < (((b :: r).length : Nat) : Int) := by simp only [List.length_cons]; omega
    have HB := Lib.hid hb
    have HLO := Lib.hid (lead_ones b)
    have hzr := Lib.hid (show 1 ≤ szr b ∧ szr b ≤ 7 by unfold szr; omega)
    generalize hBB : (b :: r) = B at *
    have HBR := Lib.hid hBB
    have HL := Lib.hid hl
    clear hcell h hB hb HCELL hBB hl
    go_enter Try.func13, Try.ntmps13
    go_upto_if 14 with fail
    refine wp_cut (RDecMid (.slice (some ⟨bl, off, none⟩) B.length cap) b w) ?_ ?_
    · rintro ⟨tm, df⟩ w1 ⟨rfl, hs, h0, h5, k1⟩
      simp only at hs h0 h5
      obtain ⟨f, hf, hg⟩ := fr_open hs
      have e0 := hg _ _ h0
      have e5 := hg _ _ h5
      simp only [List.range, List.range.loop, List.map] at hf
      rw [e0, e5] at hf
      clear e0 e5 hg hs h0 h5
      subst hf
      have hcb := hC0.out w1 k1
      have hs1 := hzr.out.1
      have hs7 := hzr.out.2
      by_cases hbad : ones b = 1 ∨ ones b = 8
      · have HP : Hid (∀ e w', e = Ending.returned (.tuple #[.int .i64 0, .int .i64 0, .int .i64 5]) → Kept Nix w w' → RDecIs (dec B) w e w') := Lib.hid (fun e w' he hk => ⟨by rw [he, ← HBR.out]; simp only [dec, if_pos hbad]; rfl, hk⟩)
        rcases hbad with hbad | hbad
        · have h1 := ones_iff b
          have h255 : ((b : Int) == 255) = false := by rw [beq_eq_false_iff_ne]; omega
          have hd : decide ((128 : Int) ≤ (b : Int)) = true := by simp; omega
          have hs : (((szr b : Nat) : Int) == 1) = true := by
            have : szr b = 1 := by unfold szr; omega
            simp [this]
          clear h1
          generalize szr b = s at *
          clear hbad
          go_wp2_with fail
          go_ret3
          exact HP.out _ _ rfl k1
        · have h1 := ones_iff b
          have h255 : ((b : Int) == 255) = true := by rw [beq_iff_eq]; have := HB.out; omega
          clear h1
          generalize szr b = s at *
          clear hbad
          go_wp2_with fail
          go_ret3
          exact HP.out _ _ rfl k1
      · have hcase : (decide ((128 : Int) ≤ (b : Int)) = true ∧ (((szr b : Nat) : Int) == 1) = false) ∨ decide ((128 : Int) ≤ (b : Int)) = false := by
          have h1 := ones_iff b
          by_cases h : b < 128
          · right
            simp; omega
          · left
            refine ⟨by simp; omega, ?_⟩
            rw [beq_eq_false_iff_ne]
            have h3 : ¬ szr b = 1 := by unfold szr; omega
            omega
        have h255 : ((b : Int) == 255) = false := by
          have h1 := ones_iff b
          rw [beq_eq_false_iff_ne]
          omega
        have hd : dec B = fin (szr b) (tl (szr b - 1) (b % 2 ^ (7 - ones b)) r) := by
          have e : szr b = max 1 (ones b) := by have := ones_iff b; unfold szr; omega
          rw [← HBR.out, e]
          simp only [dec, if_neg hbad]
        have hfb := first_back b hbad
        have hn0 : b % 2 ^ (7 - ones b) < 128 := by
          have h1 : 2 ^ (7 - ones b) ≤ 2 ^ 7 := Nat.pow_le_pow_right (by decide) (by omega)
          have := Nat.mod_lt b (Nat.two_pow_pos (7 - ones b))
          omega
        have HLE := Lib.hid (fun w => refLead_any (szr b) w hs7)
        generalize hX : tl (szr b - 1) (b % 2 ^ (7 - ones b)) r = X at *
        have HD := Lib.hid hd
        generalize b % 2 ^ (7 - ones b) = n0 at *
        have hB1 : 1 ≤ B.length := by rw [← HBR.out]; simp
        have hB0 : B.drop 1 = r := by rw [← HBR.out]; rfl
        rw [← hB0] at hX
        have HX := Lib.hid hX
        have HB1 := Lib.hid hB1
        have hwb : IntKind.i64.wrap (b : Int) = (b : Int) := by have := HB.out; rw [IntKind.wrap_i64]; omega
        have hsub : (b : Int) - ((lead (szr b) : Nat) : Int) = (n0 : Int) := by omega
        have HN0 := Lib.hid hn0
        have hcd := hC0.out w1.drew k1.drew
        have hwn : wrap64 (n0 : Int) = (n0 : Int) := by unfold wrap64; omega
        generalize lead (szr b) = ld at *
        generalize szr b = s at *
        clear hd hX hB1 hB0 hbad hfb hn0
        have hwi : IntKind.i64.wrap (n0 : Int) = (n0 : Int) := by have := HN0.out; rw [IntKind.wrap_i64]; omega
        rcases hcase with ⟨hd, hs⟩ | hd
        all_goals
          go_wp2_with fail
          clear hd h255
          refine wp_cut (fun a' w' => a'.defers = [] ∧ a'.tmps.size = 85 ∧ a'.tmps[0]? = some (.slice (some ⟨bl, off, none⟩) B.length cap) ∧ a'.tmps[5]? = some (.int .i64 (s : Int)) ∧ a'.tmps[6]? = some (.int .i64 (n0 : Int)) ∧ Kept Nix w w') ?_ ?_
          · clear hcb hcd hwi hwb hsub hwn k1 HLE
            rintro ⟨tm, df⟩ w2 ⟨rfl, hs, h0, h5, h6, k2⟩
            simp only at hs h0 h5 h6
            obtain ⟨f, hf, hg⟩ := fr_open hs
            have e0 := hg _ _ h0
            have e5 := hg _ _ h5
            have e6 := hg _ _ h6
            simp only [List.range, List.range.loop, List.map] at hf
            rw [e0, e5, e6] at hf
            clear e0 e5 e6 hg hs h0 h5 h6
            subst hf
            go_wp2_with fail
            refine wp_loop (RDecInv (.slice (some ⟨bl, off, none⟩) B.length cap) B s X w) (fun a _ => 7 - (intOf (a.tmps.getD 7 undef)).toNat) ?_ ?_
            · exact ⟨rfl, rfl, rfl, rfl, 1, n0, by omega, hs1, HB1.out, by have := HN0.out; omega, rfl, rfl, HX.out.symm, k2⟩
            · clear k2
              rintro ⟨tm, df⟩ w3 ⟨rfl, hs, h0, h5, i, n, hi1, his, hiB, hnb, h6, h7, hX, k3⟩
              simp only at hs h0 h5 h6 h7
              obtain ⟨f, hf, hg⟩ := fr_open hs
              have e0 := hg _ _ h0
              have e5 := hg _ _ h5
              have e6 := hg _ _ h6
              have e7 := hg _ _ h7
              simp only [List.range, List.range.loop, List.map] at hf
              rw [e0, e5, e6, e7] at hf
              clear e0 e5 e6 e7 hg hs h0 h5 h6 h7
              subst hf
              have hnl := pow_lim i (by omega)
              have hn2 : (n : Int) < 8796093022208 := by omega
              have HNB := Lib.hid hnb
              clear hnb hnl
              by_cases hlt : i < s
              · have hli : decide (i < s) = true := by simpa using hlt
                by_cases hlb : i = B.length
                · have hX2 := tl_last s n i B hlt hlb
                  rw [← hX] at hX2
                  have HP : Hid (∀ e w', e = Ending.returned (.tuple #[.int .i64 0, .int .i64 0, .int .i64 2]) → Kept Nix w w' → RDecIs (dec B) w e w') := Lib.hid (fun e k he hk => ⟨by rw [he, HD.out, hX2]; rfl, hk⟩)
                  have hbl : decide (B.length ≤ i) = true := by simp; omega
                  clear hX hX2 hlb hlt
                  go_wp2_with fail
                  go_ret3
                  exact HP.out _ _ rfl k3
                · have hbl : decide (B.length ≤ i) = false := by simp; omega
                  have hib : (i : Int) < (B.length : Int) := by omega
                  have hX2 := tl_next s n i B hlt (by omega)
                  rw [← hX] at hX2
                  have hci : w3.cell? ⟨bl, off + i, none⟩ = some (.int .u8 ((B.getD i 0 : Nat) : Int)) := by
                    obtain ⟨b', o', c', e', _, _, hh⟩ := (HSL.out.nix k3).cells (by omega)
                    simp only [Value.slice.injEq, Option.some.injEq, Addr.mk.injEq, and_true] at e'
                    obtain ⟨⟨rfl, rfl⟩, _, rfl⟩ := e'
                    exact hh i (by omega)
                  have hc : B.getD i 0 < 256 := by
                    refine HBB.out _ ?_
                    rw [List.getD_eq_getElem?_getD, List.getElem?_eq_getElem (show i < B.length by omega)]
                    exact List.getElem_mem _
                  generalize B.getD i 0 = c at *
                  have HNX := pow_step n i c HNB.out
                  by_cases hc2 : c / 64 = 2
                  · rw [if_pos hc2] at hX2
                    have HX2 := Lib.hid hX2
                    have HNX := Lib.hid HNX
                    have HLT := Lib.hid hlt
                    have HLB := Lib.hid hlb
                    have d1 : decide ((c : Int) < 128) = false := by rw [decide_eq_false_iff_not]; omega
                    have d2 : decide ((191 : Int) < (c : Int)) = false := by rw [decide_eq_false_iff_not]; omega
                    have w1 : IntKind.i64.wrap (c : Int) = (c : Int) := by rw [IntKind.wrap_i64]; omega
                    have HC := Lib.hid hc2
                    clear hX hX2 hlb hlt hc2 hc
                    go_wp2_with fail
                    refine ⟨⟨rfl, rfl, rfl, rfl, i + 1, n * 64 + c % 64, by omega, HLT.out, ?_, HNX.out, ?_, rfl, HX2.out, k3⟩, ?_⟩
                    · have := HLB.out; omega
                    · rw [← wrap_six n c (by omega) HC.out]
                      rfl
                    · have := HLT.out
                      simp [intOf]; omega
                  · rw [if_neg hc2] at hX2
                    have HP : Hid (∀ e w', e = Ending.returned (.tuple #[.int .i64 0, .int .i64 0, .int .i64 5]) → Kept Nix w w' → RDecIs (dec B) w e w') := Lib.hid (fun e k he hk => ⟨by rw [he, HD.out, hX2]; rfl, hk⟩)
                    have hcc : decide ((c : Int) < 128) = true ∨ (decide ((c : Int) < 128) = false ∧ decide ((191 : Int) < (c : Int)) = true) := by
                      by_cases h : (c : Int) < 128
                      · left; simpa using h
                      · right
                        refine ⟨by simpa using h, ?_⟩
                        rw [decide_eq_true_eq]; omega
                    clear hX hX2 hlb hlt hc2 hc
                    rcases hcc with d1 | ⟨d1, d2⟩
                    · go_wp2_with fail
                      go_ret3
                      exact HP.out _ _ rfl k3
                    · go_wp2_with fail
                      go_ret3
                      exact HP.out _ _ rfl k3
              · have hie : i = s := by omega
                have hX2 : X = (n, 0) := by rw [hX, hie, Nat.sub_self]; rfl
                have hli : decide (i < s) = false := by simpa using hlt
                have HS := Lib.hid (refSize_any (n : Int))
                by_cases hsz : szn n = s
                · have HP : Hid (∀ e w', e = Ending.returned (.tuple #[.int .i64 (n : Int), .int .i64 (s : Int), .int .i64 0]) → Kept Nix w w' → RDecIs (dec B) w e w') := Lib.hid (fun e k he hk => ⟨by rw [he, HD.out, hX2]; simp [fin, hsz], hk⟩)
                  rw [hsz] at HS
                  clear hX hX2 hie hsz hlt
                  go_wp2_with fail
                  refine (HS.out _).mono ?_
                  rintro e w4 ⟨rfl, k4⟩
                  go_wp2_with fail
                  go_ret3
                  exact HP.out _ _ rfl (nix_trans k3 k4)
                · have HP : Hid (∀ e w', e = Ending.returned (.tuple #[.int .i64 0, .int .i64 0, .int .i64 5]) → Kept Nix w w' → RDecIs (dec B) w e w') := Lib.hid (fun e k he hk => ⟨by rw [he, HD.out, hX2]; simp [fin, hsz], hk⟩)
                  have hne : (((szn n : Nat) : Int) != (s : Int)) = true := by simp; omega
                  generalize szn n = z at *
                  clear hX hX2 hie hsz hlt
                  go_wp2_with fail
                  refine (HS.out _).mono ?_
                  rintro e w4 ⟨rfl, k4⟩
                  go_wp2_with fail
                  go_ret3
                  exact HP.out _ _ rfl (nix_trans k3 k4)
          · intro J K' hJ hK'
            have hlen2 : 0 < B.length := by omega
            go_region_held3 (fun w' => w'.cell? ⟨bl, off, none⟩ = some (.int .u8 (b : Int)))
              (first | go_keep | (exact HQ8.out))
              (first
                | (go_at_call 20; refine (HLE.out _).mono ?_; rintro e w8 ⟨rfl, k8⟩; have K8 := Lib.hid (nix_trans k1.drew k8); have HQ8 := Lib.hid (hC0.out w8 K8.out); clear k8))
            all_goals
              exact hK' _ _ (hJ _ _ ⟨rfl, rfl, rfl, rfl, rfl, K8.out⟩)
    · intro J K' hJ hK'
      by_cases h128 : (128 : Int) ≤ (b : Int)
      · have HON := Lib.hid (show 1 ≤ ones b from (ones_iff b).1.2 (by omega))
        have hd : decide ((128 : Int) ≤ (b : Int)) = true := by simpa using h128
        clear h128
        simp only [hd]
        clear hd
        go_wp2_with fail
        refine wp_loop (RDecIn1 (.slice (some ⟨bl, off, none⟩) B.length cap) b w) (fun a _ => (intOf (a.tmps.getD 5 undef)).toNat) ?_ ?_
        · exact ⟨rfl, rfl, rfl, 7, hzr.out.2, Nat.le_refl _, rfl, Kept.refl _ _⟩
        · rintro ⟨tm, df⟩ w1 ⟨rfl, hs, h0, s, hs1, hs2, h5, k1⟩
          simp only at hs h0 h5
          obtain ⟨f, hf, hg⟩ := fr_open hs
          have e0 := hg _ _ h0
          have e5 := hg _ _ h5
          simp only [List.range, List.range.loop, List.map] at hf
          rw [e0, e5] at hf
          clear e0 e5 hg hs h0 h5
          subst hf
          have hcb := hC0.out w1 k1
          have hcd := hC0.out w1.drew k1.drew
          have HLE := Lib.hid (fun w => refLead_any s w hs2)
          have hs7 : (s : Int) ≤ 7 := by omega
          have hwb : IntKind.i64.wrap (b : Int) = (b : Int) := by have := HB.out; rw [IntKind.wrap_i64]; omega
          have HWB := Lib.hid hwb
          clear hwb
          by_cases hgo : ones b < s
          · have hs2' : 2 ≤ s := by have := HON.out; omega
            have hs1i : (1 : Int) < (s : Int) := by omega
            have HBL := Lib.hid (show decide ((b : Int) < ((lead s : Nat) : Int)) = true by
              have := (HLO.out s hs2' hs2).2 hgo
              simp; omega)
            have HNX := Lib.hid (show szr b ≤ s - 1 by have := HON.out; unfold szr; omega)
            clear hgo
            generalize lead s = ld at *
            go_wp2_with fail
            have hlen2 : 0 < B.length := by omega
            go_region_held3 (fun w' => w'.cell? ⟨bl, off, none⟩ = some (.int .u8 (b : Int)))
              (first | go_keep | (exact HQ8.out))
              (first
                | (go_at_call 20; refine (HLE.out _).mono ?_; rintro e w8 ⟨rfl, k8⟩; have K8 := Lib.hid (nix_trans k1.drew k8); have HQ8 := Lib.hid (hC0.out w8 K8.out); clear k8))
            all_goals
              simp only [HWB.out, HBL.out]
              go_wp2_with fail
              refine ⟨⟨rfl, rfl, rfl, s - 1, HNX.out, by omega, ?_, K8.out⟩, ?_⟩
              · rw [show ((s - 1 : Nat) : Int) = (s : Int) - 1 by omega]
                rfl
              · simp [intOf]; omega
          · have HSE := Lib.hid (show s = szr b by have := HON.out; revert hs1; unfold szr; omega)
            by_cases hs1' : s = 1
            · subst hs1'
              go_wp2_with fail
              go_quiet (fail)
              go_wp2_with fail
              exact hJ _ _ ⟨rfl, rfl, rfl, by rw [← HSE.out]; rfl, k1.drewN _⟩
            · have hs2' : 2 ≤ s := by have := hzr.out; omega
              have hs1i : (1 : Int) < (s : Int) := by omega
              have HBL := Lib.hid (show decide ((b : Int) < ((lead s : Nat) : Int)) = false by
                rw [decide_eq_false_iff_not]
                exact fun h => hgo ((HLO.out s hs2' hs2).1 (by omega)))
              clear hgo hs1'
              generalize lead s = ld at *
              go_wp2_with fail
              have hlen2 : 0 < B.length := by omega
              go_region_held3 (fun w' => w'.cell? ⟨bl, off, none⟩ = some (.int .u8 (b : Int)))
                (first | go_keep | (exact HQ8.out))
                (first
                  | (go_at_call 20; refine (HLE.out _).mono ?_; rintro e w8 ⟨rfl, k8⟩; have K8 := Lib.hid (nix_trans k1.drew k8); have HQ8 := Lib.hid (hC0.out w8 K8.out); clear k8))
              all_goals
                simp only [HWB.out, HBL.out]
                go_wp2_with fail
                exact hJ _ _ ⟨rfl, rfl, rfl, by rw [← HSE.out]; rfl, K8.out⟩
      · have E1 := Lib.hid (show szr b = 1 by
          have := (ones_iff b).1
          unfold szr; omega)
        have hd : decide ((128 : Int) ≤ (b : Int)) = false := by simpa using h128
        clear h128
        simp only [hd]
        clear hd
        go_wp2_with fail
        exact hJ _ _ ⟨rfl, rfl, rfl, by rw [E1.out]; rfl, Kept.refl _ _⟩

end Go.Proofs.Ytipbldajpdacdaa
