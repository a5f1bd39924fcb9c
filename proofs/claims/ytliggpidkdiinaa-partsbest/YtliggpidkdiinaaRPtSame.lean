/- The reference's Same, of two plans that are alike. -/
import Derived.Test.YtliggpidkdiinaaPartVal
import Derived.Test.YtliggpidkdiinaaCostEq
namespace Go.Proofs.Ytliggpidkdiinaa
open Go.RowKit Bx

theorem two_new (w : World) (c1 c2 : Array Value) (t u : TypeId) : ∀ w2, w2 = (w.alloc (.cells c1 t)).alloc (.cells c2 u) → w2.heap[w.heap.size]? = some (.cells c1 t (0, 0)) ∧ w2.heap[w.heap.size + 1]? = some (.cells c2 u (0, 0)) ∧ Kept Nix w w2 := by
  rintro w2 rfl
  have h := heap_alloc_new (w.alloc (.cells c1 t)) (.cells c2 u)
  refine ⟨((Kept.refl Nix (w.alloc (.cells c1 t))).alloc _).heap (heap_alloc_new w _) id, ?_, ((Kept.refl Nix w).alloc _).alloc _⟩
  simpa using h

def PSameInv (g2 g3 : Nat) (n : Nat) (w : World) (a : Act) (w' : World) : Prop :=
  a.defers = [] ∧ a.tmps.size = 45 ∧ a.tmps[2]? = some (.pointer (some ⟨g2, 0, none⟩)) ∧ a.tmps[3]? = some (.pointer (some ⟨g3, 0, none⟩)) ∧
  ∃ i : Nat, i ≤ n ∧ a.tmps[5]? = some (.int .i64 (i : Int)) ∧ ∃ k, w' = w.drewN k

set_option maxRecDepth 10000 in
set_option maxHeartbeats 2000000 in
theorem rpsame_eq (wd : Bool) (o : Int) (va vb : Value) (ps : List (Int × Bool)) (w : World) (ha : Pts w va ps) (hb : Pts w vb ps) :
    Calls Try.prog 11 #[.agg #[.bool wd, .int .i64 o, va], .agg #[.bool wd, .int .i64 o, vb]] w fun e w' => e = .returned (.bool true) ∧ Kept Nix w w' := by
  obtain ⟨ao, ac, rfl, ha⟩ := ha.len
  obtain ⟨bo, bc, rfl, hb⟩ := hb.len
  have HL := Lib.hid (show ps.length ≤ 9223372036854775807 by obtain ⟨_, cap, e, h1, h2, -⟩ := ha; simp only [maxLen] at h2; omega)
  have HA := Lib.hid ha
  have HB := Lib.hid hb
  have TN := Lib.hid (two_new w #[.bool wd, .int .i64 o, .slice ao ps.length ac] #[.bool wd, .int .i64 o, .slice bo ps.length bc] 26 26 _ rfl)
  clear ha hb
  generalize hn : ps.length = n at *
  have HN := Lib.hid hn
  clear hn
  go_enter Try.func11, Try.ntmps11
  go_upto_region 1 with fail
  generalize (w.alloc (.cells #[.bool wd, .int .i64 o, .slice ao n ac] 26)).alloc (.cells #[.bool wd, .int .i64 o, .slice bo n bc] 26) = w1 at *
  have K1 := Lib.hid TN.out.2.2
  have CA := Lib.hid (fun w' (h : Kept Nix w1 w') => cells_three (h.heap TN.out.1 id))
  have CB := Lib.hid (fun w' (h : Kept Nix w1 w') => cells_three (h.heap TN.out.2.1 id))
  clear TN
  generalize w.heap.size + 1 = g3 at *
  generalize w.heap.size = g2 at *
  obtain ⟨x0, x1, x2⟩ := CA.out w1 (Kept.refl _ _)
  obtain ⟨y0, y1, y2⟩ := CB.out w1 (Kept.refl _ _)
  have e1 : (wd != wd) = false := bne_self_eq_false _
  have e2 : (o != o) = false := bne_self_eq_false _
  have e3 : ((n : Int) != (n : Int)) = false := bne_self_eq_false _
  go_wp2
  clear x0 x1 x2 y0 y1 y2 e1 e2 e3
  refine wp_loop (PSameInv g2 g3 n w1) (fun a _ => n - (intOf (a.tmps.getD 5 undef)).toNat) ?_ ?_
  · exact ⟨rfl, rfl, rfl, rfl, 0, Nat.zero_le _, rfl, 0, rfl⟩
  · rintro ⟨tm, df⟩ w2 ⟨rfl, hs, g2', g3', i, hi, g5', k, rfl⟩
    simp only at hs g2' g3' g5'
    obtain ⟨f, hf, hg⟩ := fr_open hs
    have h2 := hg _ _ g2'
    have h3 := hg _ _ g3'
    have h5 := hg _ _ g5'
    simp only [List.range, List.range.loop, List.map] at hf
    rw [h2, h3, h5] at hf
    clear h2 h3 h5 hg hs g2' g3' g5'
    subst hf
    have hk := (Kept.refl Nix w1).drewN k
    obtain ⟨x0, x1, x2⟩ := CA.out _ hk
    obtain ⟨y0, y1, y2⟩ := CB.out _ hk
    clear x0 x1 y0 y1
    by_cases hlt : i < n
    · have hdd : decide (i < n) = true := decide_eq_true hlt
      have hi1 : (i : Int) < (n : Int) := by omega
      obtain ⟨b1, o1, rfl, hc1⟩ := HA.out.at i (by rw [HN.out]; exact hlt)
      obtain ⟨b2, o2, rfl, hc2⟩ := HB.out.at i (by rw [HN.out]; exact hlt)
      obtain ⟨p1, p2⟩ := hc1 _ (nix_trans K1.out hk)
      obtain ⟨q1, q2⟩ := hc2 _ (nix_trans K1.out hk)
      have HI := Lib.hid hlt
      have HW := Lib.hid (show wrap64 ((i : Int) + 1) = ((i + 1 : Nat) : Int) by have := HL.out; rw [w64_in _ (by omega)]; omega)
      clear hc1 hc2 hlt hi hk
      generalize ps.getD i (0, false) = pk at *
      obtain ⟨pk, pr⟩ := pk
      simp only at p1 p2 q1 q2
      generalize hwx : w1.drewN k = wx at *
      have HWX := Lib.hid hwx
      have e1 : (pk != pk) = false := bne_self_eq_false _
      have e2 : (pr != pr) = false := bne_self_eq_false _
      have e3 : (pk == pk) = true := by simp
      have e4 : (pr == pr) = true := by simp
      clear hwx
      go_wp2
      go_quiet (fail)
      clear p1 p2 q1 q2 x2 y2 e1 e2 e3 e4
      go_wp2
      rw [HW.out]
      exact ⟨⟨rfl, rfl, rfl, rfl, i + 1, HI.out, rfl, k + nq, by rw [← HWX.out, World.drewN_drewN]⟩, nearer HI.out rfl⟩
    · have hie : i = n := by omega
      subst hie
      have hdd : decide (i < i) = false := decide_eq_false hlt
      clear hi hlt hk
      go_wp2
      go_ret
      exact ⟨rfl, K1.out.drewN _⟩

end Go.Proofs.Ytliggpidkdiinaa
