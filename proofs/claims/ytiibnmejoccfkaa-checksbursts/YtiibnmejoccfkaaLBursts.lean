/- The walk of ChecksBursts. -/
import Derived.Test.YtiibnmejoccfkaaCrcBurst
import Derived.Test.YtiibnmejoccfkaaLParts
namespace Go.Proofs.Ytiibnmejoccfkaa
open Go.RowKit Bx Crc

def BurstInv (w : World) (b1 b2 : Nat) (vb vx vy : Value) (B : List Nat) (k d : Nat) (a : Act) (w' : World) : Prop :=
  a.defers = [] ∧ a.tmps.size = 111 ∧ a.tmps[0]? = some vb ∧ a.tmps[7]? = some (.bool true) ∧ a.tmps[8]? = some vx ∧ a.tmps[9]? = some vy ∧ a.tmps[10]? = some (.int .i64 (k : Int)) ∧ Kept Nix w w' ∧
  ∃ i X Y, i ≤ 16 ∧ k + i ≤ 8 * B.length ∧ a.tmps[13]? = some (.int .i64 ((i : Nat) : Int)) ∧ a.tmps[2]? = some (.int .u16 ((d / 2 ^ i : Nat) : Int)) ∧ a.tmps[11]? = some (.bool ((lo d (min i 8)).any id)) ∧ a.tmps[12]? = some (.bool ((lo d i).any id)) ∧
    w'.ownsRow b1 5 1 vx B.length (u8s X) ∧ w'.ownsRow b2 5 1 vy B.length (u8s Y) ∧ Turned B X k (lo d (min i 8)) ∧ Turned B Y k (lo d i)

set_option maxHeartbeats 2000000 in
theorem walk_ChecksBursts (w : World) (v : Value) (zs : List Int) (s : Sl w v (zs.map (Value.int .u8))) (hz : ∀ n ∈ zs, (Lit.int .u8 n).wf = true) (a1 : Int) (h1 : (Lit.int .u16 a1).wf = true) (a2 : Int) (h2 : (Lit.int .u16 a2).wf = true) :
    Calls Try.prog 6 #[v, .int .u16 a1, .int .u16 a2] w fun e w' => e = .returned (.bool true) ∧ Kept Nix w w' := by
  have HA := Lib.hid (awake_any w)
  obtain ⟨B, hs, hB, -⟩ := s.nats hz
  obtain ⟨c, rfl, hc⟩ := nat_u16 h1
  obtain ⟨d, rfl, hd⟩ := nat_u16 h2
  clear s hz h1 h2
  obtain ⟨ao, cap, rfl⟩ := hs.shape
  have HS := Lib.hid hs
  have HB := Lib.hid hB
  clear hs hB
  by_cases h0 : ((B.length : Int) == 0) = true
  · go_enter Try.func6, Try.ntmps6
    go_wp2_with fail
    refine HA.out.mono ?_
    rintro e w1 ⟨rfl, k1⟩
    go_wp2_with fail
    go_ret
    exact ⟨rfl, k1⟩
  · have h0 : ((B.length : Int) == 0) = false := by simpa using h0
    have HP : Hid (0 < B.length) := Lib.hid (by have : ¬ (B.length : Int) = 0 := by simpa using h0
                                                omega)
    by_cases hlen : 200 < (B.length : Int)
    · go_enter Try.func6, Try.ntmps6
      go_wp2_with fail
      refine HA.out.mono ?_
      rintro e w1 ⟨rfl, k1⟩
      go_wp2_with fail
      go_ret
      exact ⟨rfl, k1⟩
    · have hl2 : decide (200 < (B.length : Int)) = false := by simpa using hlen
      have HL : Hid (B.length ≤ 200) := Lib.hid (by omega)
      clear hlen
      go_enter Try.func6, Try.ntmps6
      go_wp2_with fail
      refine HA.out.mono ?_
      rintro e w1 ⟨rfl, k1⟩
      have S1 := Lib.hid (src_u8s (HS.out.nix k1))
      clear HA
      go_wp2_with (at_builtin; refine wpList_app _ rfl (.tmp 25) (.tmp 26) 22 rfl w1.heap.size 5 (.int .u8 0) 1 1 Try.underlying22 info_u8 rfl (by decide) (.slice (some ⟨w1.heap.size, 0, none⟩) 0 0) 0 [] rfl ?_ ao B.length cap (u8s B) rfl ?_ ?_ ?_ ?_ ?_)
      · exact World.ownsRow_made w1 #[] 0 (Nat.le_refl _) (by simp [maxLen]) rfl
      · exact S1.out.alloc _
      · have := HL.out; simp only [maxLen]; omega
      · have := HL.out; omega
      · simp
      · intro v2 w2 o2 g2 n2
        have k2 := kept_new g2
        obtain ⟨gx, cx, rfl, _, _, hx1, hx2⟩ := owns_pos o2 HP.out
        have O2 := Lib.hid o2
        have S2 := Lib.hid (src_u8s (HS.out.nix (nix_trans k1 k2)))
        clear o2 g2 n2 S1
        go_wp2_with (at_builtin; refine wpList_app _ rfl (.tmp 28) (.tmp 29) 22 rfl w2.heap.size 5 (.int .u8 0) 1 1 Try.underlying22 info_u8 rfl (by decide) (.slice (some ⟨w2.heap.size, 0, none⟩) 0 0) 0 [] rfl ?_ ao B.length cap (u8s B) rfl ?_ ?_ ?_ ?_ ?_)
        · exact World.ownsRow_made w2 #[] 0 (Nat.le_refl _) (by simp [maxLen]) rfl
        · exact S2.out.alloc _
        · have := HL.out; simp only [maxLen]; omega
        · have := HL.out; omega
        · simp
        · intro v3 w3 o3 g3 n3
          have k3 := kept_new g3
          obtain ⟨gy, cy, rfl, _, _, hy1, hy2⟩ := owns_pos o3 HP.out
          have O2 := Lib.hid (k3.owns O2.out (fun _ _ h => h))
          have O3 := Lib.hid o3
          have hne : gx ≠ gy := by omega
          have K3 := Lib.hid (nix_trans k1 (nix_trans k2 k3))
          have HG1 := Lib.hid (show w.heap.size ≤ gx by have := k1.size; omega)
          have HG2 := Lib.hid (show w.heap.size ≤ gy by have := k1.size; have := k2.size; omega)
          have HNE := Lib.hid hne
          have j1 : (0 : Int) < (B.length : Int) := by have := HP.out; omega
          have j2 : (B.length : Int) ≤ 200 := by have := HL.out; omega
          clear o3 g3 n3 S2 k1 k2 k3 hne hx1 hx2 hy1 hy2
          generalize w1.heap.size = bx at *
          generalize w2.heap.size = bY at *
          have hkk : (c : Int) % (8 * (B.length : Int)) = ((c % (8 * B.length) : Nat) : Int) := by simp
          have hkl : c % (8 * B.length) < 8 * B.length := Nat.mod_lt _ (by have := HP.out; omega)
          generalize c % (8 * B.length) = k at *
          have HKL := Lib.hid hkl
          clear hkl
          go_wp2_with fail
          refine wp_loop (BurstInv w bx bY (.slice ao B.length cap) (.slice (some ⟨gx, 0, none⟩) B.length cx) (.slice (some ⟨gy, 0, none⟩) B.length cy) B k d) (fun a _ => 16 - (intOf (a.tmps.getD 13 undef)).toNat) ?_ ?_
          · refine ⟨rfl, rfl, rfl, rfl, rfl, rfl, ?_, K3.out, 0, B, B, Nat.zero_le _, by have := HKL.out; omega, rfl, ?_, rfl, rfl, O2.out, O3.out, turned_nil B k HB.out (by have := HKL.out; omega), turned_nil B k HB.out (by have := HKL.out; omega)⟩
            · first | rfl | (rw [← hkk]; rfl)
            · simp
          · clear K3 O2 O3 hkk
            rintro ⟨tm, df⟩ w4 ⟨rfl, hs, h0', h7, h8, h9, h10, k4, i, X, Y, hi, hki, h13, h2, h11, h12, o1, o2, t1, t2⟩
            simp only at hs h0' h7 h8 h9 h10 h13 h2 h11 h12
            obtain ⟨f, hf, hg⟩ := fr_open hs
            have e0 := hg _ _ h0'
            have e2 := hg _ _ h2
            have e7 := hg _ _ h7
            have e8 := hg _ _ h8
            have e9 := hg _ _ h9
            have e10 := hg _ _ h10
            have e11 := hg _ _ h11
            have e12 := hg _ _ h12
            have e13 := hg _ _ h13
            simp only [List.range, List.range.loop, List.map] at hf
            rw [e0, e2, e7, e8, e9, e10, e11, e12, e13] at hf
            clear e0 e2 e7 e8 e9 e10 e11 e12 e13 hg hs h0' h2 h7 h8 h9 h10 h11 h12 h13
            subst hf
            have HT1 := Lib.hid t1
            have HT2 := Lib.hid t2
            have HO1 := Lib.hid o1
            have HO2 := Lib.hid o2
            have HK4 := Lib.hid k4
            clear t1 t2 o1 o2 k4
            by_cases hrun : i < 16 ∧ k + i < 8 * B.length
            · obtain ⟨h16, hkb⟩ := hrun
              have m1 : decide ((i : Int) < 16) = true := by simp; omega
              have m2 : decide ((k : Int) + (i : Int) < 8 * (B.length : Int)) = true := by simp; omega
              have hlo : lo d (i + 1) = lo d i ++ [d / 2 ^ i % 2 == 1] := rfl
              have hdn : d / 2 ^ (i + 1) = d / 2 ^ i / 2 := by rw [Nat.pow_succ, Nat.div_div_eq_div_mul]
              have hdl : d / 2 ^ i < 65536 := Nat.lt_of_le_of_lt (Nat.div_le_self _ _) hd
              generalize hq : d / 2 ^ i = q at *
              have HLO := Lib.hid hlo
              have HDN := Lib.hid hdn
              have hmm : (k : Int) + (i : Int) = ((k + i : Nat) : Int) := by omega
              have hp1 : ((k + i : Nat) : Int) / 8 = (((k + i) / 8 : Nat) : Int) := by omega
              have hp2 : ((k + i : Nat) : Int) % 8 = (((k + i) % 8 : Nat) : Int) := by omega
              have hr8 : (k + i) % 8 < 8 := by omega
              have hpl : (k + i) / 8 < B.length := by omega
              rw [hmm] at m2
              have HL1 := lo_length d (min i 8)
              have HL2 := lo_length d i
              have TX : Hid (i < 8 → Turned B X k (lo d i)) := Lib.hid (fun h => by have := HT1.out; rwa [Nat.min_eq_left (by omega)] at this)
              have hmn : i < 8 → min i 8 = i := fun h => by omega
              have hmn2 : ¬ i < 8 → min i 8 = 8 ∧ min (i + 1) 8 = 8 := fun h => by omega
              have hY1 := HT2.out.1
              have hX1 := HT1.out.1
              have hyb := getD_lt Y ((k + i) / 8) HT2.out.2.1
              have hxb := getD_lt X ((k + i) / 8) HT1.out.2.1
              have cy1 := HO2.out.cellAt ((k + i) / 8) (by omega)
              have cx1 := HO1.out.cellAt ((k + i) / 8) (by omega)
              rw [u8s_get _ _ (by omega)] at cy1 cx1
              have fy1 := HO2.out.frozenAt ((k + i) / 8)
              have fx1 := HO1.out.frozenAt ((k + i) / 8)
              have hfy : flip Y (k + i) = Y.set ((k + i) / 8) (Y.getD ((k + i) / 8) 0 ^^^ 128 / 2 ^ ((k + i) % 8)) := rfl
              have hfx : flip X (k + i) = X.set ((k + i) / 8) (X.getD ((k + i) / 8) 0 ^^^ 128 / 2 ^ ((k + i) % 8)) := rfl
              have YES := Lib.hid (HT2.out.yes (by rw [HL2]; exact hkb))
              have NO := Lib.hid (HT2.out.no (by rw [HL2]; exact hkb))
              have XYES := Lib.hid (fun h : i < 8 => (TX.out h).yes (by rw [HL2]; exact hkb))
              have XNO := Lib.hid (fun h : i < 8 => (TX.out h).no (by rw [HL2]; exact hkb))
              rw [HL2] at YES XYES
              have KI := Lib.hid hkb
              generalize hM : k + i = m at *
              have HM := Lib.hid hM
              generalize hPP : m / 8 = pp at *
              generalize hRR : m % 8 = rr at *
              generalize Y.getD pp 0 = y at *
              generalize X.getD pp 0 = x at *
              have hr8' : (rr : Int) < 8 := by omega
              have hpl' : (pp : Int) < (B.length : Int) := by omega
              have HFY := Lib.hid hfy
              have HFX := Lib.hid hfx
              have HMN := Lib.hid hmn
              have HMN2 := Lib.hid hmn2
              have hb1 : (128 : Int) / 2 ^ rr = ((128 / 2 ^ rr : Nat) : Int) := by simp
              have hbl : 128 / 2 ^ rr < 256 := by have := Nat.div_le_self 128 (2 ^ rr); omega
              generalize hBT : 128 / 2 ^ rr = bt at *
              have hxy : bits .xor .u8 (y : Int) (bt : Int) = ((y ^^^ bt : Nat) : Int) := u8_xor_nat _ _ hyb hbl
              have hxx : bits .xor .u8 (x : Int) (bt : Int) = ((x ^^^ bt : Nat) : Int) := u8_xor_nat _ _ hxb hbl
              generalize y ^^^ bt = yn at *
              generalize x ^^^ bt = xn at *
              have cx2 : (w4.setCell ⟨gy, pp, none⟩ (.int .u8 (yn : Int))).cell? ⟨gx, pp, none⟩ = some (.int .u8 (x : Int)) := (World.cell?_of_block (heap_set_other HNE.out)).trans cx1
              have fx2 : (w4.setCell ⟨gy, pp, none⟩ (.int .u8 (yn : Int))).frozen? ⟨gx, pp, none⟩ = false := by
                have h := heap_set_other (w := w4) (p := ⟨gy, pp, none⟩) (u := .int .u8 (yn : Int)) HNE.out
                unfold World.frozen? at fx1 ⊢
                rw [h]
                exact fx1
              have SY : Hid (((w4.setCell ⟨gy, pp, none⟩ (.int .u8 (yn : Int))).ownsRow bY 5 1 (.slice (some ⟨gy, 0, none⟩) B.length cy) B.length (u8s (flip Y m))) ∧ (w4.setCell ⟨gy, pp, none⟩ (.int .u8 (yn : Int))).ownsRow bx 5 1 (.slice (some ⟨gx, 0, none⟩) B.length cx) B.length (u8s X) ∧ Kept Nix w (w4.setCell ⟨gy, pp, none⟩ (.int .u8 (yn : Int)))) := Lib.hid (by
                refine ⟨?_, ?_, HK4.out.setCell (.inr HG2.out) _⟩
                · have h := (HO2.out.stored pp (.int .u8 (yn : Int))).1
                  rw [hfy, show u8s (Y.set pp yn) = (u8s Y).set pp (.int .u8 (yn : Int)) by simp [u8s]]
                  exact h
                · exact (Kept.setCell (S := One gy) (p := ⟨gy, pp, none⟩) (Kept.refl _ w4) (.inl rfl) _).owns HO1.out (fun k hk e => HNE.out (by have hk' : some gx = some k := hk; have e' : k = gy := e; simp only [Option.some.injEq] at hk'; omega)))
              have SX : Hid ((((w4.setCell ⟨gy, pp, none⟩ (.int .u8 (yn : Int))).setCell ⟨gx, pp, none⟩ (.int .u8 (xn : Int))).ownsRow bY 5 1 (.slice (some ⟨gy, 0, none⟩) B.length cy) B.length (u8s (flip Y m))) ∧ ((w4.setCell ⟨gy, pp, none⟩ (.int .u8 (yn : Int))).setCell ⟨gx, pp, none⟩ (.int .u8 (xn : Int))).ownsRow bx 5 1 (.slice (some ⟨gx, 0, none⟩) B.length cx) B.length (u8s (flip X m)) ∧ Kept Nix w ((w4.setCell ⟨gy, pp, none⟩ (.int .u8 (yn : Int))).setCell ⟨gx, pp, none⟩ (.int .u8 (xn : Int)))) := Lib.hid (by
                obtain ⟨h1, h2, h3⟩ := SY.out
                refine ⟨?_, ?_, h3.setCell (.inr HG1.out) _⟩
                · exact (Kept.setCell (S := One gx) (p := ⟨gx, pp, none⟩) (Kept.refl _ _) (.inl rfl) _).owns h1 (fun k hk e => HNE.out (by have hk' : some gy = some k := hk; have e' : k = gx := e; simp only [Option.some.injEq] at hk'; omega))
                · have h := (h2.stored pp (.int .u8 (xn : Int))).1
                  rw [hfx, show u8s (X.set pp xn) = (u8s X).set pp (.int .u8 (xn : Int)) by simp [u8s]]
                  exact h)
              have HLOE : Hid (∀ t, (q % 2 == 1) = t → lo d (i + 1) = lo d i ++ [t]) := Lib.hid (fun t h => by rw [HLO.out, h])
              have hqq : (q % 2 == 1) = ((q : Int) % 2 == 1) := by rw [Bool.eq_iff_iff, beq_iff_eq, beq_iff_eq]; omega
              have HQQ := Lib.hid hqq
              have HKI : Hid (k + (i + 1) ≤ 8 * B.length) := Lib.hid (by have := KI.out; have := HM.out; omega)
              have HI : Hid (i + 1 ≤ 16) := Lib.hid h16
              have HFI : Hid (some (Value.int .u16 ((q : Int) / 2)) = some (Value.int .u16 ((d / 2 ^ (i + 1) : Nat) : Int))) := Lib.hid (by rw [HDN.out]; rfl)
              have HKX := Lib.hid HK4.out
              have HX1 := Lib.hid HO1.out
              have HX2 := Lib.hid HO2.out
              clear hlo hdn hq hM hPP hRR hBT hfy hfx hY1 hX1 HL1 HL2 hmn hmn2 hkb hqq HO1 HO2 HK4 HFY HFX h16 hi hki hyb hxb hr8 hpl
              by_cases hodd : ((q : Int) % 2 == 1) = true
              · have e1 := HLOE.out true (by rw [HQQ.out, hodd])
                by_cases h8 : i < 8
                · have m3 : decide ((i : Int) < 8) = true := by simp; omega
                  have m4 : min (i + 1) 8 = i + 1 := by omega
                  have a1 : (lo d (min (i + 1) 8)).any id = true := by rw [m4, e1]; simp
                  have a2 : (lo d (i + 1)).any id = true := by rw [e1]; simp
                  have x1 : Turned B (flip X m) k (lo d (min (i + 1) 8)) := by rw [m4, e1]; exact XYES.out h8
                  have x2 : Turned B (flip Y m) k (lo d (i + 1)) := by rw [e1]; exact YES.out
                  have XX := Lib.hid x1
                  have YY := Lib.hid x2
                  have A1 := Lib.hid a1
                  have A2 := Lib.hid a2
                  clear e1 m4 a1 a2 x1 x2
                  go_wp2_with fail
                  refine ⟨⟨rfl, rfl, rfl, rfl, rfl, rfl, rfl, SX.out.2.2, i + 1, flip X m, flip Y m, HI.out, HKI.out, rfl, HFI.out, ?_, ?_, SX.out.2.1, SX.out.1, XX.out, YY.out⟩, ?_⟩
                  · rw [A1.out]; rfl
                  · rw [A2.out]; rfl
                  · have := HI.out; simp [intOf]; omega
                · have m3 : decide ((i : Int) < 8) = false := by simp; omega
                  obtain ⟨m5, m4⟩ := HMN2.out h8
                  have a2 : (lo d (i + 1)).any id = true := by rw [e1]; simp
                  have x1 : Turned B X k (lo d (min (i + 1) 8)) := by have := HT1.out; rw [m5] at this; rw [m4]; exact this
                  have x2 : Turned B (flip Y m) k (lo d (i + 1)) := by rw [e1]; exact YES.out
                  have XX := Lib.hid x1
                  have YY := Lib.hid x2
                  have A1 := Lib.hid (show min (i + 1) 8 = min i 8 by omega)
                  have A2 := Lib.hid a2
                  clear e1 m4 m5 a2 x1 x2
                  go_wp2_with fail
                  refine ⟨⟨rfl, rfl, rfl, rfl, rfl, rfl, rfl, SY.out.2.2, i + 1, X, flip Y m, HI.out, HKI.out, rfl, HFI.out, ?_, ?_, SY.out.2.1, SY.out.1, XX.out, YY.out⟩, ?_⟩
                  · rw [A1.out]; rfl
                  · rw [A2.out]; rfl
                  · have := HI.out; simp [intOf]; omega
              · have hodd : ((q : Int) % 2 == 1) = false := by simpa using hodd
                have e1 := HLOE.out false (by rw [HQQ.out, hodd])
                by_cases h8 : i < 8
                · have m4 : min (i + 1) 8 = i + 1 := by omega
                  have a1 : (lo d (min (i + 1) 8)).any id = (lo d (min i 8)).any id := by rw [m4, e1, HMN.out h8]; simp
                  have a2 : (lo d (i + 1)).any id = (lo d i).any id := by rw [e1]; simp
                  have x1 : Turned B X k (lo d (min (i + 1) 8)) := by rw [m4, e1]; exact XNO.out h8
                  have x2 : Turned B Y k (lo d (i + 1)) := by rw [e1]; exact NO.out
                  have XX := Lib.hid x1
                  have YY := Lib.hid x2
                  have A1 := Lib.hid a1
                  have A2 := Lib.hid a2
                  clear e1 m4 a1 a2 x1 x2
                  go_wp2_with fail
                  refine ⟨⟨rfl, rfl, rfl, rfl, rfl, rfl, rfl, HKX.out, i + 1, X, Y, HI.out, HKI.out, rfl, HFI.out, ?_, ?_, HX1.out, HX2.out, XX.out, YY.out⟩, ?_⟩
                  · rw [A1.out]; rfl
                  · rw [A2.out]; rfl
                  · have := HI.out; simp [intOf]; omega
                · obtain ⟨m5, m4⟩ := HMN2.out h8
                  have a2 : (lo d (i + 1)).any id = (lo d i).any id := by rw [e1]; simp
                  have x1 : Turned B X k (lo d (min (i + 1) 8)) := by have := HT1.out; rw [m5] at this; rw [m4]; exact this
                  have x2 : Turned B Y k (lo d (i + 1)) := by rw [e1]; exact NO.out
                  have XX := Lib.hid x1
                  have YY := Lib.hid x2
                  have A1 := Lib.hid (show min (i + 1) 8 = min i 8 by omega)
                  have A2 := Lib.hid a2
                  clear e1 m4 m5 a2 x1 x2
                  go_wp2_with fail
                  refine ⟨⟨rfl, rfl, rfl, rfl, rfl, rfl, rfl, HKX.out, i + 1, X, Y, HI.out, HKI.out, rfl, HFI.out, ?_, ?_, HX1.out, HX2.out, XX.out, YY.out⟩, ?_⟩
                  · rw [A1.out]; rfl
                  · rw [A2.out]; rfl
                  · have := HI.out; simp [intOf]; omega
            · have hP1 := lo_length d (min i 8)
              have hP2 := lo_length d i
              have q1 : ((c8 X : Int) != (c8 B : Int)) = (lo d (min i 8)).any id := by
                have h := turned_crc (W := 8) (g := 7) (by decide) (by decide) (by decide) HT1.out (by rw [hP1]; omega) (by rw [hP1]; omega)
                have h' : c8 X = c8 B ↔ (lo d (min i 8)).any id = false := h
                cases ha : (lo d (min i 8)).any id
                · have := h'.2 ha
                  rw [this]; simp
                · have : ¬ c8 X = c8 B := fun e => by have := h'.1 e; rw [ha] at this; cases this
                  simp; omega
              have q2 : ((c16 Y : Int) != (c16 B : Int)) = (lo d i).any id := by
                have h := turned_crc (W := 16) (g := 32773) (by decide) (by decide) (by decide) HT2.out (by rw [hP2]; omega) (by rw [hP2]; omega)
                have h' : c16 Y = c16 B ↔ (lo d i).any id = false := h
                cases ha : (lo d i).any id
                · have := h'.2 ha
                  rw [this]; simp
                · have : ¬ c16 Y = c16 B := fun e => by have := h'.1 e; rw [ha] at this; cases this
                  simp; omega
              have hrun' : (decide ((i : Int) < 16) = true ∧ decide ((k : Int) + (i : Int) < 8 * (B.length : Int)) = false) ∨ decide ((i : Int) < 16) = false := by
                simp only [decide_eq_true_eq, decide_eq_false_iff_not]; omega
              have E1 := Lib.hid (eight_any _ X w4 (sl_of_owns HO1.out) HT1.out.2.1)
              have E2 := Lib.hid (fun w' (hk : Kept Nix w4 w') => eight_any _ B w' (HS.out.nix (nix_trans HK4.out hk)) HB.out)
              have E3 := Lib.hid (fun w' (hk : Kept Nix w4 w') => sixteen_any _ Y w' ((sl_of_owns HO2.out).nix hk) HT2.out.2.1)
              have E4 := Lib.hid (fun w' (hk : Kept Nix w4 w') => sixteen_any _ B w' (HS.out.nix (nix_trans HK4.out hk)) HB.out)
              generalize (lo d (min i 8)).any id = p1 at *
              generalize (lo d i).any id = p2 at *
              have hi16 : (i : Int) ≤ 16 := by omega
              have hk16 : (k : Int) < 1600 := by have := HKL.out; omega
              clear hP1 hP2 hrun hi hki HO1 HO2 HT1 HT2
              rcases hrun' with ⟨r1, r2⟩ | r1
              all_goals
                go_wp2_with fail
                refine E1.out.mono ?_
                rintro e w5 ⟨rfl, k5⟩
                have H2 := Lib.hid (E2.out w5 k5)
                go_wp2_with fail
                refine H2.out.mono ?_
                rintro e w6 ⟨rfl, k6⟩
                have k6 := nix_trans k5 k6
                have H3 := Lib.hid (E3.out w6 k6)
                go_wp2_with fail
                refine H3.out.mono ?_
                rintro e w7 ⟨rfl, k7⟩
                have k7 := nix_trans k6 k7
                have H4 := Lib.hid (E4.out w7 k7)
                go_wp2_with fail
                refine H4.out.mono ?_
                rintro e w8 ⟨rfl, k8⟩
                go_wp2_with fail
                go_ret
                exact ⟨rfl, nix_trans HK4.out (nix_trans k7 k8)⟩

end Go.Proofs.Ytiibnmejoccfkaa
