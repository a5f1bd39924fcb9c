/- The walk of the statement BitsStay. -/
import Derived.Test.YtnchbclfjaghnaaLSplit
import Derived.Test.YtnchbclfjaghnaaArgs
namespace Go.Proofs.Ytnchbclfjaghnaa
open Go.RowKit Bx

theorem Sl.nix {w w' : World} {v : Value} {xs : List Value} (h : Sl w v xs) (hk : Kept Nix w w') : Sl w' v xs := h.kept hk (fun _ _ h => h)

/-- The three ways of a taking. -/
theorem take_ways (B : List Nat) (at_ fl k : Nat) (_hle : at_ ≤ 8 * B.length) :
    (fl ≠ 0 ∧ rval B at_ fl k = 0 ∧ rat B at_ fl k = at_ ∧ rfail B at_ fl k = fl) ∨
    (fl = 0 ∧ rval B at_ fl k = 0 ∧ rat B at_ fl k = at_ ∧ rfail B at_ fl k = 2) ∨
    (fl = 0 ∧ at_ ≤ rat B at_ fl k ∧ rat B at_ fl k ≤ 8 * B.length ∧ rfail B at_ fl k = 0) := by
  by_cases h : fl = 0
  · subst h
    by_cases hs : 8 * B.length < at_ + k
    · exact .inr (.inl ⟨rfl, by simp [rval, short, hs], by simp [rat, short, hs], by simp [rfail, hs]⟩)
    · exact .inr (.inr ⟨rfl, by simp [rat, short, hs], by simp [rat, short, hs]; omega, by simp [rfail, hs]⟩)
  · exact .inl ⟨h, by simp [rval, short, h], by simp [rat, short, h], by simp [rfail, h]⟩

def StayInv (w : World) (vb vw : Value) (n : Nat) (q : Nat) (u : Value) (B : List Nat) (a : Act) (w' : World) : Prop :=
  a.defers = [] ∧ a.tmps.size = 91 ∧ a.tmps[0]? = some vb ∧ a.tmps[2]? = some vw ∧ a.tmps[7]? = some (.bool true) ∧ a.tmps[8]? = some (.pointer (some ⟨q, 0, none⟩)) ∧
  ∃ i, i ≤ n ∧ a.tmps[9]? = some (.int .i64 ((i : Nat) : Int)) ∧ Kept Nix w w' ∧ ∃ at_ fl, Rd w.heap.size w' q u B at_ fl

set_option maxRecDepth 100000 in
set_option maxHeartbeats 1000000 in
theorem walk_BitsStay (w : World) (vb : Value) (zb : List Int) (sb : Sl w vb (zb.map (Value.int .u8))) (hb : ∀ n ∈ zb, (Lit.int .u8 n).wf = true) (a1 : Int) (_w1 : (Lit.int .i64 a1).wf = true) (vw : Value) (zw : List Int) (sw : Sl w vw (zw.map (Value.int .i64))) (_hw : ∀ n ∈ zw, (Lit.int .i64 n).wf = true) :
    Calls Try.prog 7 #[vb, .int .i64 a1, vw] w fun e w' => e = .returned (.bool true) ∧ Kept Nix w w' := by
  obtain ⟨B, sB, hB, hBl⟩ := sb.nats hb
  clear sb hb hBl
  have HA := Lib.hid (awake_any w)
  obtain ⟨ab, cb, hvb⟩ := sB.shape
  obtain ⟨aw, cw, hvw, hcw, hmw, hpw⟩ := sw.ints
  by_cases hl : B.length ≤ 200 ∧ zw.length ≤ 60
  · obtain ⟨hl1, hl2⟩ := hl
    have f1 : decide ((200 : Int) < (B.length : Int)) = false := by simp; omega
    have f2 : decide ((60 : Int) < (zw.length : Int)) = false := by simp; omega
    have f3 : ¬ 200 < B.length := by omega
    have f4 : ¬ 60 < zw.length := by omega
    have HSB := Lib.hid sB
    have HSW := Lib.hid sw
    subst hvb
    subst hvw
    clear sB sw hpw
    go_enter Try.func7, Try.ntmps7
    go_wp2_with fail
    refine HA.out.mono ?_
    rintro e w1 ⟨rfl, k1⟩
    have s1 := k1.size
    have HO := Lib.hid (open_any w.heap.size _ B w1 (HSB.out.nix k1) hB (by omega) s1)
    go_wp2_with fail
    refine HO.out.mono ?_
    rintro e w2 ⟨q, u, rfl, hq, t1, k2, g2⟩
    have s2 := k2.size
    have HT := Lib.hid (take_any w.heap.size q u B 0 0 a1 w2 t1 (by omega))
    have k2 := nix_trans k1 k2
    go_wp2_with fail
    refine HT.out.mono ?_
    rintro e w3 ⟨rfl, t2, k3⟩
    have k3 := nix_put k2 k3 (fun j hj => by rw [hj]; omega)
    have HT2 := Lib.hid t2
    clear HT HO HA t1 k1 k2 g2 t2
    go_wp2_with fail
    refine wp_loop (StayInv w (.slice ab B.length cb) (.slice aw zw.length cw) zw.length q u B) (fun a _ => zw.length - (intOf (a.tmps.getD 9 undef)).toNat) ?_ ?_
    · exact ⟨rfl, rfl, rfl, rfl, rfl, rfl, 0, Nat.zero_le _, rfl, k3, _, _, HT2.out⟩
    · rintro ⟨tm, df⟩ w4 ⟨rfl, hs, h0, h2, h7, h8, i, hi, h9, k4, at_, fl, t4⟩
      simp only at hs h0 h2 h7 h8 h9
      obtain ⟨f, hf, hg⟩ := fr_open hs
      have e0 := hg _ _ h0
      have e2 := hg _ _ h2
      have e7 := hg _ _ h7
      have e8 := hg _ _ h8
      have e9 := hg _ _ h9
      simp only [List.range, List.range.loop, List.map] at hf
      rw [e0, e2, e7, e8, e9] at hf
      clear e0 e2 e7 e8 e9 hg hs h0 h2 h7 h8 h9
      subst hf
      clear HT2 k3
      by_cases hlt : i < zw.length
      · obtain ⟨aw', cw', hv', hcw', hmw', hpw'⟩ := (HSW.out.nix k4).ints
        simp only [Value.slice.injEq, true_and] at hv'
        obtain ⟨rfl, rfl⟩ := hv'
        obtain ⟨bw, ow, rfl, _, hcell⟩ := hpw' (by omega)
        have hd := hcell i hlt
        clear hcell hpw'
        generalize zw.getD i 0 = wd at hd
        have hi1 : (i : Int) < (zw.length : Int) := by omega
        have hle := t4.2.2.2.2.2
        have H1 := Lib.hid (at_any w.heap.size q u B at_ fl w4 t4)
        have H2 := Lib.hid (fail_any w.heap.size q u B at_ fl w4 t4)
        have H3 := Lib.hid (take_any w.heap.size q u B at_ fl wd w4 t4 (by omega))
        have HW := Lib.hid (take_ways B at_ fl (wid wd) hle)
        go_wp2_with fail
        refine H1.out.mono ?_
        rintro e w' ⟨rfl, rfl⟩
        go_wp2_with fail
        refine H2.out.mono ?_
        rintro e w' ⟨rfl, rfl⟩
        go_wp2_with fail
        refine H3.out.mono ?_
        rintro e w5 ⟨rfl, t5, k5⟩
        have k5 := nix_put k4 k5 (fun j hj => by rw [hj]; omega)
        clear H1 H2 H3 t4 k4 hd
        generalize rval B at_ fl (wid wd) = X at *
        generalize rat B at_ fl (wid wd) = A at *
        generalize rfail B at_ fl (wid wd) = F at *
        have hA := t5.2.2.2.2.2
        have H4 := Lib.hid (fun wx t => at_any w.heap.size q u B A F wx t)
        have H5 := Lib.hid (fun wx t => fail_any w.heap.size q u B A F wx t)
        have H6 := Lib.hid (left_any w.heap.size q u B A F w5 t5 (by omega))
        have g1 : ((A : Int) + ((8 * B.length - A : Nat) : Int) != 8 * (B.length : Int)) = false := by simp; omega
        have T5 := Lib.hid t5
        clear t5
        rcases HW.out with ⟨c1, rfl, rfl, rfl⟩ | ⟨rfl, rfl, rfl, rfl⟩ | ⟨rfl, c2, c3, rfl⟩
        · have g2 : ((F : Int) != 0) = true := by simp; omega
          have g3 : ((A : Int) != (A : Int)) = false := by simp
          have g4 : ((F : Int) != (F : Int)) = false := by simp
          clear HW c1
          go_wp2_with fail
          refine (H4.out w5 T5.out).mono ?_
          rintro e w' ⟨rfl, rfl⟩
          go_wp2_with fail
          refine (H5.out w5 T5.out).mono ?_
          rintro e w' ⟨rfl, rfl⟩
          go_wp2_with fail
          refine (H4.out w5 T5.out).mono ?_
          rintro e w' ⟨rfl, rfl⟩
          go_wp2_with fail
          refine H6.out.mono ?_
          rintro e w6 ⟨rfl, n6, rfl⟩
          go_wp2_with fail
          refine (H4.out (w5.drewN n6) T5.out).mono ?_
          rintro e w' ⟨rfl, rfl⟩
          go_wp2_with fail
          refine (H5.out (w5.drewN n6) T5.out).mono ?_
          rintro e w' ⟨rfl, rfl⟩
          go_wp2_with fail
          refine (H4.out (w5.drewN n6) T5.out).mono ?_
          rintro e w' ⟨rfl, rfl⟩
          go_wp2_with fail
          refine ⟨⟨rfl, rfl, rfl, rfl, rfl, rfl, i + 1, hlt, rfl, k5.drewN n6, _, _, (show Rd w.heap.size (w5.drewN n6) q u B A F from T5.out)⟩, ?_⟩
          simp [intOf]
          omega
        · have g3 : ((A : Int) != (A : Int)) = false := by simp
          clear HW
          go_wp2_with fail
          refine (H4.out w5 T5.out).mono ?_
          rintro e w' ⟨rfl, rfl⟩
          go_wp2_with fail
          refine H6.out.mono ?_
          rintro e w6 ⟨rfl, n6, rfl⟩
          go_wp2_with fail
          refine (H4.out (w5.drewN n6) T5.out).mono ?_
          rintro e w' ⟨rfl, rfl⟩
          go_wp2_with fail
          refine (H5.out (w5.drewN n6) T5.out).mono ?_
          rintro e w' ⟨rfl, rfl⟩
          go_wp2_with fail
          refine (H4.out (w5.drewN n6) T5.out).mono ?_
          rintro e w' ⟨rfl, rfl⟩
          go_wp2_with fail
          refine ⟨⟨rfl, rfl, rfl, rfl, rfl, rfl, i + 1, hlt, rfl, k5.drewN n6, _, _, (show Rd w.heap.size (w5.drewN n6) q u B A 2 from T5.out)⟩, ?_⟩
          simp [intOf]
          omega
        · have g3 : decide (A < at_) = false := by simp; omega
          have g4 : ¬ A < at_ := by omega
          clear HW c2 c3
          go_wp2_with fail
          refine (H4.out w5 T5.out).mono ?_
          rintro e w' ⟨rfl, rfl⟩
          go_wp2_with fail
          refine H6.out.mono ?_
          rintro e w6 ⟨rfl, n6, rfl⟩
          go_wp2_with fail
          refine (H4.out (w5.drewN n6) T5.out).mono ?_
          rintro e w' ⟨rfl, rfl⟩
          go_wp2_with fail
          refine (H5.out (w5.drewN n6) T5.out).mono ?_
          rintro e w' ⟨rfl, rfl⟩
          go_wp2_with fail
          refine ⟨⟨rfl, rfl, rfl, rfl, rfl, rfl, i + 1, hlt, rfl, k5.drewN n6, _, _, (show Rd w.heap.size (w5.drewN n6) q u B A 0 from T5.out)⟩, ?_⟩
          simp [intOf]
          omega
      · go_wp2
        go_ret
        exact ⟨rfl, k4⟩
  · subst hvb
    subst hvw
    clear sB sw hpw
    by_cases hl1 : 200 < B.length
    · have f1 : decide ((200 : Int) < (B.length : Int)) = true := by simp; omega
      clear hl
      go_enter Try.func7, Try.ntmps7
      go_wp2_with fail
      refine HA.out.mono ?_
      rintro e w1 ⟨rfl, k1⟩
      go_wp2_with fail
      go_ret
      exact ⟨rfl, k1⟩
    · have f1 : decide ((200 : Int) < (B.length : Int)) = false := by simp; omega
      have f2 : decide ((60 : Int) < (zw.length : Int)) = true := by simp; omega
      have f4 : 60 < zw.length := by omega
      clear hl
      go_enter Try.func7, Try.ntmps7
      go_wp2_with fail
      refine HA.out.mono ?_
      rintro e w1 ⟨rfl, k1⟩
      go_wp2_with fail
      go_ret
      exact ⟨rfl, k1⟩
end Go.Proofs.Ytnchbclfjaghnaa
