/- The walk of QuantBits. -/
import Derived.Test.YtgcokligilfkgaaQuArg
namespace Go.Proofs.Ytgcokligilfkgaa
open Go.RowKit Bx

theorem bits_nums (zs : List Int) (s : Nat) {P : Nat} (h2 : 2 ≤ P) (h15 : P ≤ 15) : ∃ (H : Int) (q : Nat), wrap64 ((P : Int) - 1) = (q : Int) ∧ IntKind.i64.wrap ((P : Int) - 1) = (q : Int) ∧ wrap64 (2 ^ min q 64) = H ∧ IntKind.i64.wrap (2 ^ min q 64) = H ∧ wrap64 (-H) = -H ∧ IntKind.i64.wrap (-H) = -H ∧ wrap64 (H - 1) = H - 1 ∧ IntKind.i64.wrap (H - 1) = H - 1 ∧ True ∧ True ∧
    ∀ i, i < zs.length → decide ((tolds (2 ^ (P - 1)) (2 ^ s) zs).getD i 0 < -H) = false ∧ decide (H - 1 < (tolds (2 ^ (P - 1)) (2 ^ s) zs).getD i 0) = false := by
  have h1 := pw2 (P - 1) 14 (by omega)
  have h0 := pw2 0 (P - 1) (by omega)
  have e : (2 : Int) ^ min (P - 1) 64 = 2 ^ (P - 1) := by rw [Nat.min_eq_left (show P - 1 ≤ 64 by omega)]
  refine ⟨2 ^ (P - 1), P - 1, by unfold wrap64; omega, by rw [IntKind.wrap_i64]; omega, ?_, ?_, w64_in _ (by omega), by rw [IntKind.wrap_i64]; omega, w64_in _ (by omega), by rw [IntKind.wrap_i64]; omega, trivial, trivial, fun i hi => ?_⟩
  · rw [e]; exact w64_in _ (by omega)
  · rw [e, IntKind.wrap_i64]; omega
  · rw [tolds_get _ _ _ i hi]
    have ht := tell_in (2 ^ (P - 1)) (wnt (2 ^ (P - 1)) (2 ^ s) zs i) (by omega)
    exact ⟨decide_eq_false (by omega), decide_eq_false (by omega)⟩

def BitsInv (v : Value) (l P g : Nat) (w : World) (a : Act) (w' : World) : Prop :=
  a.defers = [] ∧ a.tmps.size = 105 ∧ a.tmps[0]? = some v ∧ a.tmps[5]? = some (.bool true) ∧ a.tmps[7]? = some (.int .i64 (P : Int)) ∧ a.tmps[8]? = some (.pointer (some ⟨g, 0, none⟩)) ∧ ∃ i : Nat, i ≤ l ∧ a.tmps[10]? = some (.int .i64 (i : Int)) ∧ ∃ n, w' = w.drewN n

set_option maxRecDepth 10000 in
set_option maxHeartbeats 2000000 in
theorem walk_QuantBits (w : World) (v : Value) (zs : List Int) (hz : Sl w v (zs.map (Value.int .i64))) (hw : ∀ n ∈ zs, (Lit.int .i64 n).wf = true) (a : Int) (ha : (Lit.int .u8 a).wf = true) :
    Calls Try.prog 4 #[v, .int .u8 a] w fun e w' => e = .returned (.bool true) ∧ Kept Nix w w' := by
  obtain ⟨n, P, r, rfl, p1, p2, p3, p4, p5⟩ := prec_of ha
  have HA := awake_any w
  have HZ := Lib.hid (sl_ivs hz)
  obtain ⟨ao, ca, rfl, hc, -⟩ := hz.ints
  clear hz hc ha
  have HW := Lib.hid hw
  clear hw
  go_enter Try.func4, Try.ntmps4
  go_upto_region 3 with (first
    | (go_at_call 8; refine HA.mono ?_; rintro e w1 ⟨rfl, k1⟩; have K1 := Lib.hid k1; clear k1 HA; have NR := Lib.hid (rnear_any _ zs w1 (HZ.out.nix K1.out)))
    | (go_at_call 9; refine NR.out.mono ?_; rintro e w2 ⟨rfl, rfl⟩; clear NR))
  by_cases hlen : 40 < zs.length
  · have hd : decide ((40 : Int) < (zs.length : Int)) = true := decide_eq_true (by omega)
    clear hlen
    go_wp2
    go_ret
    exact ⟨rfl, K1.out⟩
  have hd : decide ((40 : Int) < (zs.length : Int)) = false := decide_eq_false (by omega)
  clear hlen
  cases hn : near zs with
  | false =>
    go_wp2
    go_ret
    exact ⟨rfl, K1.out⟩
  | true =>
    have QU := Lib.hid (quant_any _ zs (P : Int) w2 (HZ.out.nix K1.out) HW.out)
    unfold QPost QPostR at QU
    rcases qz_cases zs p4 p5 with ⟨E, hE, hq⟩ | ⟨s, hs, -, -, -, -, -, hq⟩
    · rw [hq] at QU
      simp only at QU
      have hE0 : (E != 0) = true := bne_iff_ne.2 (by omega)
      clear hq hn hE p4 p5
      generalize zs.length = l at *
      go_upto_region 7 with (first
        | (go_at_call 10; refine QU.out.mono ?_; rintro e w3 ⟨u, rfl, o3, k3⟩; clear QU
           obtain ⟨uo, uc, rfl, -, -⟩ := owns_shape o3
           have K3 := Lib.hid (nix_trans K1.out k3); clear o3 k3)
        | (refine wpList_store_row rfl 26 _ _ rfl _ _ rfl rfl 26 _ (heap_alloc_new w3 _) size_lpc rfl (one_lpc _ _ _ _ _) ?_))
      obtain ⟨k4, hc4⟩ := put_lpc w3 0 0 (.slice uo ([] : List Int).length uc) _ rfl
      generalize World.setRow _ _ _ = w4 at *
      have K4 := Lib.hid (nix_trans K3.out k4)
      obtain ⟨-, c0, c1, c2⟩ := hc4 w4 (Kept.refl _ _)
      clear hc4 k4 hd p1 p2 p3
      go_wp2
      go_ret
      exact ⟨rfl, K4.out⟩
    · rw [hq] at QU
      simp only at QU
      obtain ⟨H, q, b1, b2, b3, b4, b5, b6, b7, b8, b9, b10, hbt⟩ := bits_nums zs s p4 p5
      have HBT := Lib.hid hbt
      have HLT := Lib.hid (tolds_length (2 ^ (P - 1)) (2 ^ s) zs)
      have HS := Lib.hid hs
      clear hq hn p4 p5 hbt hs
      generalize tolds (2 ^ (P - 1)) (2 ^ s) zs = L at *
      generalize zs.length = l at *
      have HL40 := Lib.hid (show l ≤ 40 from by have := of_decide_eq_false hd; omega)
      go_upto_region 7 with (first
        | (go_at_call 10; refine QU.out.mono ?_; rintro e w3 ⟨u, rfl, o3, k3⟩; clear QU
           obtain ⟨uo, uc, rfl, -, -⟩ := owns_shape o3
           have K3 := Lib.hid (nix_trans K1.out k3); have S3 := Lib.hid (sl_of_owns o3); clear o3 k3)
        | (refine wpList_store_row rfl 26 _ _ rfl _ _ rfl rfl 26 _ (heap_alloc_new w3 _) size_lpc rfl (one_lpc _ _ _ _ _) ?_))
      obtain ⟨k4, hc4⟩ := put_lpc w3 (s : Int) (P : Int) (.slice uo L.length uc) _ rfl
      generalize World.setRow _ _ _ = w4 at *
      generalize w3.heap.size = g at *
      have K4 := Lib.hid (nix_trans K3.out k4)
      have S4 := Lib.hid (S3.out.nix k4)
      have C4 := Lib.hid (fun n => (hc4 (w4.drewN n) ((Kept.refl _ _).drewN n)).2)
      clear hc4 k4 hd p1 p2 p3
      rw [HLT.out] at S4 C4 ⊢
      go_wp2
      refine wp_loop (BitsInv (.slice ao l ca) l P g w4) (fun a _ => l - (intOf (a.tmps.getD 10 undef)).toNat) ?_ ?_
      · exact ⟨rfl, rfl, rfl, rfl, rfl, rfl, 0, Nat.zero_le _, rfl, 0, rfl⟩
      · rintro ⟨tm, df⟩ w5 ⟨rfl, hs, h0, h5, h7, h8, i, hi, h10, n1, rfl⟩
        simp only at hs h0 h5 h7 h8 h10
        obtain ⟨f, hf, hg⟩ := fr_open hs
        have e0 := hg _ _ h0
        have e5 := hg _ _ h5
        have e7 := hg _ _ h7
        have e8 := hg _ _ h8
        have e10 := hg _ _ h10
        simp only [List.range, List.range.loop, List.map] at hf
        rw [e0, e5, e7, e8, e10] at hf
        clear e0 e5 e7 e8 e10 hg hs h0 h5 h7 h8 h10
        subst hf
        obtain ⟨c0, c1, c2⟩ := C4.out n1
        by_cases hlt : i < l
        · obtain ⟨b1', o1, rfl, hc1⟩ := cell_kept S4.out i (by rw [HLT.out]; exact hlt)
          have x1 := hc1 (w4.drewN n1) ((Kept.refl _ _).drewN n1)
          obtain ⟨d1, d2⟩ := HBT.out i hlt
          have hi1 : (i : Int) < (l : Int) := by omega
          have hdd : decide (i < l) = true := decide_eq_true hlt
          have hw1 : wrap64 ((i : Int) + 1) = ((i + 1 : Nat) : Int) := by have := HL40.out; unfold wrap64; omega
          have HW1 := Lib.hid hw1
          have HI := Lib.hid hlt
          clear hc1 hlt hi hw1
          generalize L.getD i 0 = T at *
          generalize hw5 : w4.drewN n1 = w5 at *
          have HW5 := Lib.hid hw5
          clear hw5
          go_wp2
          go_quiet (fail)
          clear d1 d2 b1 b2 b3 b4 b5 b6 b7 b8
          go_wp2
          rw [HW1.out]
          exact ⟨⟨rfl, rfl, rfl, rfl, rfl, rfl, i + 1, HI.out, rfl, n1 + nq, by rw [← HW5.out, World.drewN_drewN]⟩, nearer HI.out rfl⟩
        · have hd : decide (i < l) = false := decide_eq_false hlt
          have hie : i = l := by omega
          subst hie
          have hs1 : decide ((0 : Int) ≤ (s : Int)) = true := decide_eq_true (by omega)
          have hs2 : decide ((s : Int) ≤ 15) = true := decide_eq_true (by have := HS.out; omega)
          clear hi hlt b1 b2 b3 b4 b5 b6 b7 b8
          go_wp2
          go_ret
          exact ⟨rfl, K4.out.drewN _⟩

end Go.Proofs.Ytgcokligilfkgaa
