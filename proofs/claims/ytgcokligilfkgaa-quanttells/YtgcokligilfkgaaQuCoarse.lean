/- Package quant: coarse. -/
import Derived.Test.YtgcokligilfkgaaQuLeaf
namespace Go.Proofs.Ytgcokligilfkgaa
open Go.RowKit Bx

def CoInv (va vb : Value) (h m : Int) (s n g : Nat) (zs : List Int) (w : World) (a : Act) (w' : World) : Prop :=
  a.defers = [] ∧ a.tmps.size = 50 ∧ a.tmps[1]? = some (.int .i64 (s : Int)) ∧ a.tmps[7]? = some (.int .i64 h) ∧ a.tmps[8]? = some vb ∧ a.tmps[18]? = some va ∧ a.tmps[19]? = some (.int .i64 (n : Int)) ∧
  ∃ i : Nat, i ≤ n ∧ a.tmps[20]? = some (.int .i64 (i : Int)) ∧ a.tmps[9]? = some (.int .i64 (car h m zs i)) ∧ w'.ownsRow g 3 1 vb n (ivs (fill (tolds h m zs) i)) ∧ Kept Nix w w'

theorem co_start (p : Nat) (h2 : 2 ≤ p) (h15 : p ≤ 15) : ∃ q : Nat, wrap64 ((p : Int) - 1) = (q : Int) ∧ wrap64 (1 * 2 ^ min q 64) = 2 ^ (p - 1) ∧ wrap64 (2 ^ min q 64) = 2 ^ (p - 1) := by
  have h1 := pw2 (p - 1) 14 (by omega)
  have h0 := pw2 0 (p - 1) (by omega)
  refine ⟨p - 1, by unfold wrap64; omega, ?_, ?_⟩
  · rw [Int.one_mul, Nat.min_eq_left (by omega)]; exact w64_in _ (by omega)
  · rw [Nat.min_eq_left (by omega)]; exact w64_in _ (by omega)

theorem co_nums {h : Int} {s : Nat} {zs : List Int} (f : Fit h (2 ^ s) zs) (hs : s ≤ 15) (hl : zs.length ≤ 32) (i : Nat) (hi : i < zs.length) : ∃ X W N T : Int, wrap64 (zs.getD i 0 * 2 ^ min s 64) = X ∧ wrap64 (car h (2 ^ s) zs i + X) = W ∧ wnt h (2 ^ s) zs i = W ∧ (W + 524288) / 1048576 = N ∧ tell h W = T ∧ -h ≤ N ∧ min N (h - 1) = T ∧
    wrap64 (-h) = -h ∧ wrap64 (h - 1) = h - 1 ∧ wrap64 (T * 1048576) = T * 1048576 ∧ wrap64 (W - T * 1048576) = car h (2 ^ s) zs (i + 1) ∧ wrap64 ((i : Int) + 1) = ((i + 1 : Nat) : Int) ∧ -1152921504606846976 ≤ W ∧ W ≤ 1152921504606846976 := by
  obtain ⟨w1, w2, x1, x2⟩ := wnt_bd f i hi hl
  have hb := car_bd f i (by omega)
  have hlow := tell_low f i hi
  have h1 := f.h1
  have h2 := f.h2
  have ht := tell_in h (wnt h (2 ^ s) zs i) (by omega)
  have hmn : min ((wnt h (2 ^ s) zs i + 524288) / 1048576) (h - 1) = tell h (wnt h (2 ^ s) zs i) := by unfold tell; omega
  refine ⟨zs.getD i 0 * 2 ^ s, wnt h (2 ^ s) zs i, _, _, ?_, ?_, rfl, rfl, rfl, hlow, hmn, w64_in _ (by omega), w64_in _ (by omega), w64_in _ (by omega), ?_, by unfold wrap64; omega, by omega, by omega⟩
  · rw [Nat.min_eq_left (show s ≤ 64 by omega)]
    exact w64_in _ (by omega)
  · exact w64_in _ (by unfold wnt at w1 w2; omega)
  · rw [car_succ]
    exact w64_in _ (by omega)

set_option maxRecDepth 10000 in
set_option maxHeartbeats 2000000 in
theorem coarse_any (v : Value) (zs : List Int) (p s : Nat) (w : World) (hz : Sl w v (ivs zs)) (h2 : 2 ≤ p) (h15 : p ≤ 15) (hs : s ≤ 15) (hl : zs.length ≤ 32) (f : Fit (2 ^ (p - 1)) (2 ^ s) zs) :
    Calls Try.prog 16 #[v, .int .i64 (s : Int), .int .i64 (p : Int)] w fun e w' => ∃ u, e = .returned u ∧ w'.ownsRow w.heap.size 3 1 u zs.length (ivs (tolds (2 ^ (p - 1)) (2 ^ s) zs)) ∧ Kept Nix w w' := by
  obtain ⟨ao, ca, rfl, hca, -⟩ := hz.ints
  obtain ⟨q, n1, n2, n3⟩ := co_start p h2 h15
  have CN := Lib.hid (fun i hi => co_nums f hs hl i hi)
  have HLT := Lib.hid (tolds_length (2 ^ (p - 1)) (2 ^ s) zs)
  have HTG := Lib.hid (fun i hi => tolds_get (2 ^ (p - 1)) (2 ^ s) zs i hi)
  have HZ := Lib.hid hz
  have HL := Lib.hid hl
  clear hz hca f h2 h15 hs
  generalize hn : zs.length = n at *
  have HN := Lib.hid hn
  have hmk := make_int n (by omega)
  clear hn hl
  generalize (2 : Int) ^ (p - 1) = H at *
  go_enter Try.func16, Try.ntmps16
  go_wp2
  clear hmk
  refine wp_loop (CoInv (.slice ao n ca) (.slice (some ⟨w.heap.size, 0, none⟩) n n) H (2 ^ s) s n w.heap.size zs w) (fun a _ => n - (intOf (a.tmps.getD 20 undef)).toNat) ?_ ?_
  · refine ⟨rfl, rfl, rfl, congrArg (fun z => some (Value.int IntKind.i64 z)) n3, rfl, rfl, rfl, 0, Nat.zero_le _, rfl, rfl, ?_, (Kept.refl _ w).alloc _⟩
    rw [fill_zero, HLT.out]
    exact lit_base w _ (Nat.le_refl _) _ n (by simp) (by have := HL.out; simp only [maxLen]; omega)
  · clear n1 n2 n3
    rintro ⟨tm, df⟩ w1 ⟨rfl, hs, h1, h7, h8, h18, h19, i, hi, h20, h9, ho, hk⟩
    simp only at hs h1 h7 h8 h18 h19 h20 h9
    obtain ⟨f, hf, hg⟩ := fr_open hs
    have e1 := hg _ _ h1
    have e7 := hg _ _ h7
    have e8 := hg _ _ h8
    have e9 := hg _ _ h9
    have e18 := hg _ _ h18
    have e19 := hg _ _ h19
    have e20 := hg _ _ h20
    simp only [List.range, List.range.loop, List.map] at hf
    rw [e1, e7, e8, e9, e18, e19, e20] at hf
    clear e1 e7 e8 e9 e18 e19 e20 hg hs h1 h7 h8 h9 h18 h19 h20
    subst hf
    have HK := Lib.hid hk
    have HO := Lib.hid ho
    clear ho hk
    have HG := Lib.hid (Nat.le_refl w.heap.size)
    by_cases hlt : i < n
    · obtain ⟨b1, o1, rfl, hc1⟩ := cell_kept HZ.out i (by rw [HN.out]; exact hlt)
      have c1 := hc1 w1 HK.out
      obtain ⟨X, W, N, T, m1, m2, m3, m4, m5, m6, m7, m8, m9, m10, m11, m12, m13, m14⟩ := CN.out i hlt
      have N12 := Lib.hid m12
      have N11 := Lib.hid m11
      have N7 := Lib.hid m7
      have HI := Lib.hid hlt
      have hz : w1.frozen? ⟨w.heap.size, i, none⟩ = false := HO.out.frozenAt i
      obtain ⟨z, c3⟩ := fill_cell HO.out HLT.out hlt
      have HS := Lib.hid (fill_set (tolds H (2 ^ s) zs) i (by rw [HLT.out]; exact hlt))
      have HA : Hid ((tolds H (2 ^ s) zs).getD i 0 = T) := Lib.hid ((HTG.out i hlt).trans (by rw [m3, m5]))
      have NE := Lib.hid (nearest_any W ⟨m13, m14⟩)
      rw [m4] at NE
      have N10 := Lib.hid m10
      clear m10 m12 m11 hlt hi hc1 m13 m14 m3 m4 m5 m7
      generalize car H (2 ^ s) zs i = c at *
      generalize zs.getD i 0 = x at *
      have hi1 : (i : Int) < (n : Int) := by have := HI.out; omega
      have hdd : decide (i < n) = true := decide_eq_true HI.out
      go_wp2_with (go_at_call 19; refine (NE.out _).mono ?_; rintro e w' ⟨rfl, rfl⟩)
      all_goals rw [N12.out]
      case' inl => obtain rfl : T = H - 1 := by have := N7.out; omega
      case' inr => obtain rfl : T = N := by have := N7.out; omega
      all_goals refine ⟨⟨rfl, rfl, rfl, rfl, rfl, rfl, rfl, i + 1, HI.out, rfl, ?_, ?_, HK.out.setCell (.inr HG.out) _⟩, nearer HI.out rfl⟩
      all_goals first
        | exact congrArg (fun z => some (Value.int IntKind.i64 z)) ((congrArg (fun z => wrap64 (W - z)) N10.out).trans N11.out)
        | (rw [← HS.out, HA.out, ← ivs_set]; exact (HO.out.stored i _).1)
    · have hd : decide ((i : Int) < (n : Int)) = false := decide_eq_false (by omega)
      have hd' : decide (i < n) = false := decide_eq_false hlt
      have him : i = n := by omega
      subst him
      have h := HO.out
      rw [show fill (tolds _ (2 ^ s) zs) i = tolds _ (2 ^ s) zs by rw [show fill (tolds _ (2 ^ s) zs) i = fill (tolds _ (2 ^ s) zs) (tolds _ (2 ^ s) zs).length by rw [HLT.out], fill_last]] at h
      have HH := Lib.hid h
      clear h hlt hi
      go_wp2
      go_ret
      exact ⟨_, rfl, HH.out, HK.out⟩

end Go.Proofs.Ytgcokligilfkgaa
