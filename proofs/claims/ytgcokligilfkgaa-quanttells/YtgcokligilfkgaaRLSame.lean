/- The reference of layer 11: Same, of two predictors that are one. -/
import Derived.Test.YtgcokligilfkgaaLpcVal
namespace Go.Proofs.Ytgcokligilfkgaa
open Go.RowKit Bx

def LSInv (p q n : Nat) (w : World) (a : Act) (w' : World) : Prop :=
  a.defers = [] ∧ a.tmps.size = 45 ∧ a.tmps[2]? = some (.pointer (some ⟨p, 0, none⟩)) ∧ a.tmps[3]? = some (.pointer (some ⟨q, 0, none⟩)) ∧ ∃ i : Nat, i ≤ n ∧ a.tmps[5]? = some (.int .i64 (i : Int)) ∧ ∃ k, w' = w.drewN k

set_option maxRecDepth 10000 in
set_option maxHeartbeats 2000000 in
theorem rlsame_eq (s p : Int) (u v : Value) (A : List Int) (w : World) (hu : Sl w u (ivs A)) (hv : Sl w v (ivs A)) (hl : A.length < 1099511627776) :
    Calls Try.prog 12 #[.agg #[.int .i64 s, .int .i64 p, u], .agg #[.int .i64 s, .int .i64 p, v]] w fun e w' => e = .returned (.bool true) ∧ Kept Nix w w' := by
  obtain ⟨ao, ca, rfl, -⟩ := hu.ints
  obtain ⟨bo, cb, rfl, -⟩ := hv.ints
  have k2 : Kept Nix w ((w.alloc (.cells #[.int .i64 s, .int .i64 p, .slice ao A.length ca] 26)).alloc (.cells #[.int .i64 s, .int .i64 p, .slice bo A.length cb] 26)) := ((Kept.refl _ w).alloc _).alloc _
  have b1 : ((w.alloc (.cells #[.int .i64 s, .int .i64 p, .slice ao A.length ca] 26)).alloc (.cells #[.int .i64 s, .int .i64 p, .slice bo A.length cb] 26)).heap[w.heap.size]? = some (.cells #[.int .i64 s, .int .i64 p, .slice ao A.length ca] 26 (0, 0)) := (Below.heap_alloc _ _ _ (by simp)).trans (heap_alloc_new w _)
  have b2 : ((w.alloc (.cells #[.int .i64 s, .int .i64 p, .slice ao A.length ca] 26)).alloc (.cells #[.int .i64 s, .int .i64 p, .slice bo A.length cb] 26)).heap[w.heap.size + 1]? = some (.cells #[.int .i64 s, .int .i64 p, .slice bo A.length cb] 26 (0, 0)) := heap_new (by simp)
  have HU := Lib.hid (hu.nix k2)
  have HV := Lib.hid (hv.nix k2)
  have K2 := Lib.hid k2
  have HB1 := Lib.hid b1
  have HB2 := Lib.hid b2
  have HL := Lib.hid hl
  clear hu hv k2 b1 b2 hl
  generalize hn : A.length = n at *
  have HN := Lib.hid hn
  clear hn
  have t1 : (s != s) = false := bne_self_eq_false _
  have t2 : (p != p) = false := bne_self_eq_false _
  have t3 : ((n : Int) != (n : Int)) = false := bne_self_eq_false _
  go_enter Try.func12, Try.ntmps12
  go_upto_region 1 with fail
  generalize (w.alloc (.cells #[.int .i64 s, .int .i64 p, .slice ao n ca] 26)).alloc (.cells #[.int .i64 s, .int .i64 p, .slice bo n cb] 26) = w1 at *
  have CC := Lib.hid (fun k => show (w1.drewN k).cell? ⟨w.heap.size, 0, none⟩ = some (.int .i64 s) ∧ (w1.drewN k).cell? ⟨w.heap.size, 1, none⟩ = some (.int .i64 p) ∧ (w1.drewN k).cell? ⟨w.heap.size, 2, none⟩ = some (.slice ao n ca) ∧ (w1.drewN k).cell? ⟨w.heap.size + 1, 0, none⟩ = some (.int .i64 s) ∧ (w1.drewN k).cell? ⟨w.heap.size + 1, 1, none⟩ = some (.int .i64 p) ∧ (w1.drewN k).cell? ⟨w.heap.size + 1, 2, none⟩ = some (.slice bo n cb) from by
    have e1 := ((Kept.refl Nix w1).drewN k).heap HB1.out id
    have e2 := ((Kept.refl Nix w1).drewN k).heap HB2.out id
    exact ⟨by rw [cell_of e1]; rfl, by rw [cell_of e1]; rfl, by rw [cell_of e1]; rfl, by rw [cell_of e2]; rfl, by rw [cell_of e2]; rfl, by rw [cell_of e2]; rfl⟩)
  obtain ⟨y0, y1, y2, y3, y4, y5⟩ := CC.out 0
  rw [show w1.drewN 0 = w1 from rfl] at y0 y1 y2 y3 y4 y5
  generalize w.heap.size + 1 = g2 at *
  generalize w.heap.size = g1 at *
  go_wp2
  clear y0 y1 y2 y3 y4 y5 t1 t2 t3
  refine wp_loop (LSInv g1 g2 n w1) (fun a _ => n - (intOf (a.tmps.getD 5 undef)).toNat) ?_ ?_
  · exact ⟨rfl, rfl, rfl, rfl, 0, Nat.zero_le _, rfl, 0, rfl⟩
  · rintro ⟨tm, df⟩ w2 ⟨rfl, hs, e2, e3, i, hi, e5, k, rfl⟩
    simp only at hs e2 e3 e5
    obtain ⟨f, hf, hg⟩ := fr_open hs
    have g2' := hg _ _ e2
    have g3' := hg _ _ e3
    have g5' := hg _ _ e5
    simp only [List.range, List.range.loop, List.map] at hf
    rw [g2', g3', g5'] at hf
    clear g2' g3' g5' hg hs e2 e3 e5
    subst hf
    obtain ⟨-, -, y2, -, -, y5⟩ := CC.out k
    by_cases hlt : i < n
    · obtain ⟨b1, o1, rfl, hc1⟩ := cell_kept HU.out i (by rw [HN.out]; exact hlt)
      obtain ⟨b2, o2, rfl, hc2⟩ := cell_kept HV.out i (by rw [HN.out]; exact hlt)
      have x1 := hc1 _ ((Kept.refl _ w1).drewN k)
      have x2 := hc2 _ ((Kept.refl _ w1).drewN k)
      have hi1 : (i : Int) < (n : Int) := by omega
      have hdd : decide (i < n) = true := decide_eq_true hlt
      have hw1 : wrap64 ((i : Int) + 1) = ((i + 1 : Nat) : Int) := by have := HL.out; unfold wrap64; omega
      have HW1 := Lib.hid hw1
      have HI := Lib.hid hlt
      clear hc1 hc2 hlt hi hw1
      generalize A.getD i 0 = x at *
      have hx : (x != x) = false := bne_self_eq_false _
      generalize hwx : w1.drewN k = wx at *
      have HWX := Lib.hid hwx
      clear hwx
      go_wp2
      go_quiet (fail)
      clear hx x1 x2
      go_wp2
      rw [HW1.out]
      exact ⟨⟨rfl, rfl, rfl, rfl, i + 1, HI.out, rfl, k + nq, by rw [← HWX.out, World.drewN_drewN]⟩, nearer HI.out rfl⟩
    · have hie : i = n := by omega
      subst hie
      have hdd : decide (i < i) = false := decide_eq_false hlt
      clear hi hlt
      go_wp2
      go_ret
      exact ⟨rfl, K2.out.drewN _⟩

end Go.Proofs.Ytgcokligilfkgaa
