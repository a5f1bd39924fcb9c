/- The walk of the statement BitsTake. -/
import Derived.Test.YtnchbclfjaghnaaRef2
namespace Go.Proofs.Ytnchbclfjaghnaa
open Go.RowKit Bx

/-- The two readers stand at the same place, and failed alike. -/
def Pair (w : World) (q q2 : Nat) (u u2 : Value) (B : List Nat) (L : List Bool) (w' : World) : Prop :=
  Kept Nix w w' ∧ ∃ at_ fl, Rd w.heap.size w' q u B at_ fl ∧ Rr w.heap.size w' q2 u2 L at_ fl

def BTInv (w : World) (vb vw vf : Value) (n q q2 : Nat) (u u2 : Value) (B : List Nat) (L : List Bool) (a : Act) (w' : World) : Prop :=
  a.defers = [] ∧ a.tmps.size = 114 ∧ a.tmps[0]? = some vb ∧ a.tmps[1]? = some vw ∧ a.tmps[2]? = some vf ∧ a.tmps[7]? = some (.bool true) ∧ a.tmps[8]? = some (.pointer (some ⟨q, 0, none⟩)) ∧ a.tmps[9]? = some (.pointer (some ⟨q2, 0, none⟩)) ∧
  (∃ i, i ≤ n ∧ a.tmps[10]? = some (.int .i64 ((i : Nat) : Int))) ∧ Pair w q q2 u u2 B L w'

def BTMid (w : World) (vb vw vf : Value) (i q q2 : Nat) (u u2 : Value) (B : List Nat) (L : List Bool) (a : Act) (w' : World) : Prop :=
  a.defers = [] ∧ a.tmps.size = 114 ∧ a.tmps[0]? = some vb ∧ a.tmps[1]? = some vw ∧ a.tmps[2]? = some vf ∧ a.tmps[7]? = some (.bool true) ∧ a.tmps[8]? = some (.pointer (some ⟨q, 0, none⟩)) ∧ a.tmps[9]? = some (.pointer (some ⟨q2, 0, none⟩)) ∧
  a.tmps[10]? = some (.int .i64 ((i : Nat) : Int)) ∧ (∃ X : Nat, a.tmps[11]? = some (.int .u64 (X : Int)) ∧ a.tmps[12]? = some (.int .u64 (X : Int))) ∧ Pair w q q2 u u2 B L w'

set_option maxRecDepth 100000 in
set_option maxHeartbeats 2000000 in
theorem walk_BitsTake (w : World) (vb : Value) (zb : List Int) (sb : Sl w vb (zb.map (Value.int .u8))) (hb : ∀ n ∈ zb, (Lit.int .u8 n).wf = true) (vw : Value) (zw : List Int) (sw : Sl w vw (zw.map (Value.int .i64))) (_hw : ∀ n ∈ zw, (Lit.int .i64 n).wf = true)
    (vf : Value) (zf : List Bool) (sf : Sl w vf (zf.map Value.bool)) :
    Calls Try.prog 4 #[vb, vw, vf] w fun e w' => e = .returned (.bool true) ∧ Kept Nix w w' := by
  obtain ⟨B, sB, hB, hBl⟩ := sb.nats hb
  clear sb hb hBl
  have HA := Lib.hid (awake_any w)
  obtain ⟨ab, cb, hvb⟩ := sB.shape
  obtain ⟨aw, cw, hvw, hcw, hmw, hpw⟩ := sw.ints
  obtain ⟨af, cf, hvf, hcf, hmf, hpf⟩ := sf.bools
  clear hpw hpf
  subst hvb
  subst hvw
  subst hvf
  have HSB := Lib.hid sB
  have HSW := Lib.hid sw
  have HSF := Lib.hid sf
  clear sB sw sf
  by_cases hl : B.length ≤ 200 ∧ zw.length ≤ 60
  · obtain ⟨hl1, hl2⟩ := hl
    have f1 : decide ((200 : Int) < (B.length : Int)) = false := by simp; omega
    have f2 : decide ((60 : Int) < (zw.length : Int)) = false := by simp; omega
    have f3 : ¬ 200 < B.length := by omega
    have f4 : ¬ 60 < zw.length := by omega
    have hl8 : 8 * B.length < 1099511627776 := by omega
    obtain ⟨L, hLd⟩ : ∃ L, bitsOf B = L := ⟨_, rfl⟩
    have HLL := Lib.hid (show L.length = 8 * B.length by rw [← hLd]; exact bitsOf_length _ B rfl)
    have HLN := Lib.hid (show num L = be B by rw [← hLd]; exact num_bitsOf _ B rfl hB)
    have HLD := Lib.hid hLd
    clear hLd
    go_enter Try.func4, Try.ntmps4
    go_wp2_with fail
    refine HA.out.mono ?_
    rintro e w1 ⟨rfl, k1⟩
    have s1 := k1.size
    have HO := Lib.hid (open_any w.heap.size _ B w1 (HSB.out.nix k1) hB (by omega) s1)
    go_wp2_with fail
    refine HO.out.mono ?_
    rintro e w2 ⟨q, u, rfl, hq, t2, k2, g2⟩
    have s2 := k2.size
    have k2 := nix_trans k1 k2
    have hbt := bits_any w.heap.size _ B w2 (HSB.out.nix k2) hB hl1 (by omega)
    rw [HLD.out] at hbt
    have HBT := Lib.hid hbt
    clear hbt HO HA k1
    go_wp2_with fail
    refine HBT.out.mono ?_
    rintro e w3 ⟨u2, rfl, o3, k3, g3⟩
    have s3 := k3.size
    obtain ⟨ao3, cap3, hv3, hcap3, hmax3⟩ := owns_shape o3
    have rr : Rr w.heap.size (w3.alloc (.cells #[u2, .int .i64 0, .int .i64 0] 43)) w3.heap.size u2 L 0 0 := ⟨by omega, heap_alloc_new w3 _, fun e => by have := (o3.lt _ e).2; omega, o3.alloc _, Nat.zero_le _⟩
    have rd := (t2.apart k3 (disj_nix _)).apart ((Kept.refl Nix w3).alloc (.cells #[u2, .int .i64 0, .int .i64 0] 43)) (disj_nix _)
    have d1 : Disj (Only q u) (One w3.heap.size) := disj_new (fun k hk => (t2.foot k hk).2) (fun k hk => by rw [hk]; exact s3)
    have d2 : Disj (Only w3.heap.size u2) (One q) := by
      intro k h1 h2
      have h2' : k = q := h2
      have h3 := t2.lt
      rcases h1 with h1 | h1
      · omega
      · have := g3 _ h1; omega
    have k4 := (nix_trans k2 k3).alloc (.cells #[u2, .int .i64 0, .int .i64 0] 43)
    have D1 := Lib.hid d1
    have D2 := Lib.hid d2
    have hq2 : w.heap.size ≤ w3.heap.size := by omega
    have hqb : w.heap.size ≤ q := by omega
    have P0 := Lib.hid (show Pair w q w3.heap.size u u2 B L (w3.alloc (.cells #[u2, .int .i64 0, .int .i64 0] 43)) from ⟨k4, 0, 0, rd, rr⟩)
    clear rr rd d1 d2 k4 k2 k3 o3 g3 t2 g2 HBT
    rw [hv3]
    rw [hv3] at P0 D2
    go_wp2_with fail
    generalize hq2e : w3.heap.size = q2 at *
    refine wp_loop (BTInv w (.slice ab B.length cb) (.slice aw zw.length cw) (.slice af zf.length cf) zw.length q q2 u (.slice ao3 L.length cap3) B L) (fun a _ => zw.length - (intOf (a.tmps.getD 10 undef)).toNat) ?_ ?_
    · exact ⟨rfl, rfl, rfl, rfl, rfl, rfl, rfl, rfl, ⟨0, Nat.zero_le _, rfl⟩, P0.out⟩
    · rintro ⟨tm, df⟩ w4 ⟨rfl, hs, h0, h1, h2, h7, h8, h9, ⟨i, hi, h10⟩, pr4⟩
      simp only at hs h0 h1 h2 h7 h8 h9 h10
      obtain ⟨f, hf, hg⟩ := fr_open hs
      have e0 := hg _ _ h0
      have e1 := hg _ _ h1
      have e2 := hg _ _ h2
      have e7 := hg _ _ h7
      have e8 := hg _ _ h8
      have e9 := hg _ _ h9
      have e10 := hg _ _ h10
      simp only [List.range, List.range.loop, List.map] at hf
      rw [e0, e1, e2, e7, e8, e9, e10] at hf
      clear e0 e1 e2 e7 e8 e9 e10 hg hs h0 h1 h2 h7 h8 h9 h10 P0
      subst hf
      have PR4 := Lib.hid pr4
      have K4 := Lib.hid pr4.1
      clear pr4
      by_cases hlt : i < zw.length
      · obtain ⟨bw, ow, rfl⟩ := HSW.out.where (by omega)
        obtain ⟨fb, hfb⟩ : ∃ fb, (decide (i < zf.length) && zf.getD i false) = fb := ⟨_, rfl⟩
        have HFB := Lib.hid hfb
        clear hfb
        go_upto_region 13 with fail
        refine wp_cut (fun a' w' => w' = w4 ∧ a'.defers = [] ∧ a'.tmps.size = 114 ∧ a'.tmps[0]? = some (.slice ab B.length cb) ∧ a'.tmps[1]? = some (.slice (some ⟨bw, ow, none⟩) zw.length cw) ∧ a'.tmps[2]? = some (.slice af zf.length cf) ∧ a'.tmps[7]? = some (.bool true) ∧ a'.tmps[8]? = some (.pointer (some ⟨q, 0, none⟩)) ∧ a'.tmps[9]? = some (.pointer (some ⟨q2, 0, none⟩)) ∧
            a'.tmps[10]? = some (.int .i64 ((i : Nat) : Int)) ∧ a'.tmps[11]? = some (.int .u64 0) ∧ a'.tmps[12]? = some (.int .u64 0) ∧ a'.tmps[46]? = some (.bool fb)) ?_ ?_
        · rintro ⟨tm, df⟩ w5 ⟨rfl, rfl, hs, h0, h1, h2, h7, h8, h9, h10, h11, h12, h46⟩
          simp only at hs h0 h1 h2 h7 h8 h9 h10 h11 h12 h46
          obtain ⟨f4, hf, hg⟩ := fr_open hs
          have e0 := hg _ _ h0
          have e1 := hg _ _ h1
          have e2 := hg _ _ h2
          have e7 := hg _ _ h7
          have e8 := hg _ _ h8
          have e9 := hg _ _ h9
          have e10 := hg _ _ h10
          have e11 := hg _ _ h11
          have e12 := hg _ _ h12
          have e46 := hg _ _ h46
          simp only [List.range, List.range.loop, List.map] at hf
          rw [e0, e1, e2, e7, e8, e9, e10, e11, e12, e46] at hf
          clear e0 e1 e2 e7 e8 e9 e10 e11 e12 e46 hg hs h0 h1 h2 h7 h8 h9 h10 h11 h12 h46
          subst hf
          clear HFB K4
          go_upto_if 46 with fail
          refine wp_cut (BTMid w (.slice ab B.length cb) (.slice (some ⟨bw, ow, none⟩) zw.length cw) (.slice af zf.length cf) i q q2 u (.slice ao3 L.length cap3) B L) ?_ ?_
          · rintro ⟨tm, df⟩ w8 ⟨rfl, hs, h0, h1, h2, h7, h8, h9, h10, ⟨X, h11, h12⟩, k8, at_, fl, rd8, rr8⟩
            simp only at hs h0 h1 h2 h7 h8 h9 h10 h11 h12
            obtain ⟨f5, hf, hg⟩ := fr_open hs
            have e0 := hg _ _ h0
            have e1 := hg _ _ h1
            have e2 := hg _ _ h2
            have e7 := hg _ _ h7
            have e8 := hg _ _ h8
            have e9 := hg _ _ h9
            have e10 := hg _ _ h10
            have e11 := hg _ _ h11
            have e12 := hg _ _ h12
            simp only [List.range, List.range.loop, List.map] at hf
            rw [e0, e1, e2, e7, e8, e9, e10, e11, e12] at hf
            clear e0 e1 e2 e7 e8 e9 e10 e11 e12 hg hs h0 h1 h2 h7 h8 h9 h10 h11 h12 PR4
            subst hf
            have hLeft := fun n => left_any w.heap.size q u B at_ fl (w8.drewN n) rd8 hl8
            have hAt := fun n => (at_any w.heap.size q u B at_ fl (w8.drewN n) rd8).mono (fun _ _ h => And.intro h.1 h.2.symm)
            have hFail := fun n => (fail_any w.heap.size q u B at_ fl (w8.drewN n) rd8).mono (fun _ _ h => And.intro h.1 h.2.symm)
            have hEnd := fun n => end_any w.heap.size q u B at_ fl (w8.drewN n) rd8 hl8
            have hREnd := fun n => rend_any w.heap.size q2 _ L B at_ fl (w8.drewN n) rr8 HLL.out
            have hc0 := cell_of (i := 0) rr8.2.1
            have hc1 := cell_of (i := 1) rr8.2.1
            have hc2 := cell_of (i := 2) rr8.2.1
            simp only [List.getElem?_toArray, List.getElem?_cons_zero, List.getElem?_cons_succ] at hc0 hc1 hc2
            have hle := rd8.2.2.2.2.2
            have g1 : IntKind.i64.wrap ((L.length : Int) - (at_ : Int)) = ((8 * B.length - at_ : Nat) : Int) := by have := HLL.out; rw [IntWalk.i64_in _ (by omega)]; omega
            have P8 := Lib.hid (show Pair w q q2 u (.slice ao3 L.length cap3) B L w8 from ⟨k8, at_, fl, rd8, rr8⟩)
            clear rd8 rr8 k8
            go_wp2_with fail
            go_quiet (first | (go_at_call 24; exact Calls.quiet_of (hLeft _)) | (go_at_call 25; exact Calls.quiet_of_same (hAt _)) | (go_at_call 26; exact Calls.quiet_of_same (hFail _)) | (go_at_call 27; exact Calls.quiet_of (hEnd _)) | (go_at_call 28; exact Calls.quiet_of (hREnd _)))
            go_wp2_with fail
            refine ⟨⟨rfl, rfl, rfl, rfl, rfl, rfl, rfl, rfl, ⟨i + 1, hlt, rfl⟩, P8.out.1.drewN nq, P8.out.2⟩, ?_⟩
            simp [intOf]
            omega
          · intro J K' hJ hK'
            obtain ⟨k5, at_, fl, rd5, rr5⟩ := PR4.out
            have RD5 := Lib.hid rd5
            have RR5 := Lib.hid rr5
            cases fb with
            | false =>
              have hd := (HSW.out.nix k5).cellInt (i := i) hlt
              obtain ⟨wd, hwd⟩ : ∃ wd, zw.getD i 0 = wd := ⟨_, rfl⟩
              rw [hwd] at hd
              have HWD := Lib.hid hwd
              clear hwd
              have hi1 : (i : Int) < (zw.length : Int) := by omega
              have HT := Lib.hid (take_any w.heap.size q u B at_ fl wd w5 rd5 hl8)
              clear rd5 rr5
              go_wp2_with fail
              refine HT.out.mono ?_
              rintro e w6 ⟨rfl, rd6, k6⟩
              have rr6 := RR5.out.kept k6 D2.out
              have k6 := nix_put k5 k6 (fun j hj => by rw [hj]; omega)
              have hd := (HSW.out.nix k6).cellInt (i := i) hlt
              rw [HWD.out] at hd
              have HT2 := Lib.hid (rtake_any w.heap.size q2 _ L B at_ fl wd w6 rr6 HLL.out HLN.out hl1)
              have RD6 := Lib.hid rd6
              clear rd6 rr6 HT
              go_wp2_with fail
              refine HT2.out.mono ?_
              rintro e w7 ⟨rfl, rr7, k7⟩
              have rd7 := RD6.out.apart k7 D1.out
              have k7 := nix_put k6 k7 (fun j hj => by rw [hj]; omega)
              go_wp2_with fail
              refine hJ _ _ ⟨rfl, rfl, rfl, rfl, rfl, rfl, rfl, rfl, rfl, ⟨_, rfl, rfl⟩, k7, _, _, rd7, rr7⟩
            | true =>
              have HT := Lib.hid (rfill_any w.heap.size q u B at_ fl w5 rd5 hl8)
              clear rd5 rr5
              go_wp2_with fail
              refine HT.out.mono ?_
              rintro e w6 ⟨rfl, rd6, k6⟩
              have rr6 := RR5.out.kept k6 D2.out
              have k6 := nix_put k5 k6 (fun j hj => by rw [hj]; omega)
              have HT2 := Lib.hid (rfill2_any w.heap.size q2 _ L B at_ fl w6 rr6 HLL.out HLN.out hl1)
              have RD6 := Lib.hid rd6
              clear rd6 rr6 HT
              go_wp2_with fail
              refine HT2.out.mono ?_
              rintro e w7 ⟨rfl, rr7, k7⟩
              have rd7 := RD6.out.apart k7 D1.out
              have k7 := nix_put k6 k7 (fun j hj => by rw [hj]; omega)
              go_wp2_with fail
              refine hJ _ _ ⟨rfl, rfl, rfl, rfl, rfl, rfl, rfl, rfl, rfl, ⟨0, rfl, rfl⟩, k7, _, _, rd7, rr7⟩
        · intro J K' hJ hK'
          have hfb := HFB.out
          by_cases hf1 : i < zf.length
          · obtain ⟨bf, off, rfl⟩ := HSF.out.where (by omega)
            have hd3 := (HSF.out.nix K4.out).cellBool (i := i) hf1
            have hi3 : (i : Int) < (zf.length : Int) := by omega
            have e1 : zf.getD i false = fb := by rw [← hfb]; simp [hf1]
            rw [e1] at hd3
            clear e1 hfb
            go_wp2
            refine hJ _ _ ⟨rfl, rfl, rfl, rfl, rfl, rfl, rfl, rfl, rfl, rfl, rfl, rfl, rfl⟩
          · have e1 : fb = false := by rw [← hfb]; simp [hf1]
            have hi3 : ¬ i < zf.length := hf1
            have hi4 : decide (i < zf.length) = false := by simp [hf1]
            subst e1
            clear hfb
            go_wp2
            refine hJ _ _ ⟨rfl, rfl, rfl, rfl, rfl, rfl, rfl, rfl, rfl, rfl, rfl, rfl, rfl⟩
      · obtain ⟨k5, at_, fl, rd5, rr5⟩ := PR4.out
        have HEnd := Lib.hid (end_any w.heap.size q u B at_ fl w4 rd5 hl8)
        have HREnd := Lib.hid (fun n => rend_any w.heap.size q2 _ L B at_ fl (w4.drewN n) rr5 HLL.out)
        clear rd5 rr5
        go_wp2_with fail
        refine HEnd.out.mono ?_
        rintro e w5 ⟨rfl, n5, rfl⟩
        go_wp2_with fail
        refine (HREnd.out n5).mono ?_
        rintro e w6 ⟨rfl, n6, rfl⟩
        go_wp2_with fail
        go_ret
        exact ⟨rfl, k5.drewN _⟩
  · by_cases hl1 : 200 < B.length
    · have f1 : decide ((200 : Int) < (B.length : Int)) = true := by simp; omega
      clear hl
      go_enter Try.func4, Try.ntmps4
      go_wp2_with fail
      refine HA.out.mono ?_
      rintro e w1 ⟨rfl, k1⟩
      go_wp2_with fail
      go_ret
      exact ⟨rfl, k1⟩
    · have f1 : decide ((200 : Int) < (B.length : Int)) = false := by simp; omega
      have f2 : decide ((60 : Int) < (zw.length : Int)) = true := by simp; omega
      have f4 : 60 < zw.length := by omega
      clear hl
      go_enter Try.func4, Try.ntmps4
      go_wp2_with fail
      refine HA.out.mono ?_
      rintro e w1 ⟨rfl, k1⟩
      go_wp2_with fail
      go_ret
      exact ⟨rfl, k1⟩
end Go.Proofs.Ytnchbclfjaghnaa
