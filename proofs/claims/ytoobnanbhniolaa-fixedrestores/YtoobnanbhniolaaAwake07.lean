/- The chapter's example of layer 7: the contract of awake. -/
import Derived.Test.YtoobnanbhniolaaFixRRst
namespace Go.Proofs.Ytoobnanbhniolaa
open Go.RowKit Bx

theorem ex_bd : Bd 1099511627776 [1, 4, 9, 16, 25] := bd_of_mem (by decide)
theorem ex_resL : resL [1, 4, 9, 16, 25] 2 = [2, 2, 2] := by decide
theorem ex_resE : resE 5 2 = 0 := by decide
theorem ex_dn : dn 2 [1, 4, 9, 16, 25] = [2, 2, 2] := by decide

theorem sl_lit (w : World) (zs : List Int) (n : Nat) (hn : zs.length = n) (hm : n ≤ maxLen) : Sl (w.alloc (.cells (ivs zs).toArray 3)) (.slice (some ⟨w.heap.size, 0, none⟩) n n) (ivs zs) := sl_alloc w (ivs zs) 3 n (by rw [ivs_length]; exact hn) hm

/-- The reference's Ints, of two rows of the call's own. -/
theorem ints_row {va vb : Value} {A B : List Int} {w : World} {n m : Nat} {b b' : Nat} (ha : w.ownsRow b 3 1 va n (ivs A)) (hb : w.ownsRow b' 3 1 vb m (ivs B)) (hl : A.length < 1099511627776) :
    Calls Try.prog 13 #[va, vb] w fun e w' => e = .returned (.bool (decide (A = B))) ∧ ∃ n, w' = w.drewN n := ints_any va vb A B w (sl_of_owns ha) (sl_of_owns hb) hl

/-- The same numbers in both. -/
theorem ints_eq {va vb : Value} {A B : List Int} {w : World} (ha : Sl w va (ivs A)) (hb : Sl w vb (ivs B)) (hl : A.length < 1099511627776) (h : A = B) :
    Calls Try.prog 13 #[va, vb] w fun e w' => e = .returned (.bool true) ∧ ∃ n, w' = w.drewN n := by
  refine (ints_any va vb A B w ha hb hl).mono ?_
  rintro e w' ⟨rfl, hn⟩
  exact ⟨by rw [decide_eq_true h], hn⟩

set_option maxHeartbeats 1000000 in
theorem awake_any (w : World) : Calls Try.prog 9 #[] w fun e w' => e = .returned (.bool true) ∧ Kept Nix w w' := by
  have HR := Lib.hid (res_any _ [1, 4, 9, 16, 25] 2 (w.alloc (.cells (ivs [1, 4, 9, 16, 25]).toArray 3)) (sl_lit w [1, 4, 9, 16, 25] 5 rfl (by decide)) (by decide) ex_bd)
  have K1 := Lib.hid (show Kept Nix w (w.alloc (.cells (ivs [1, 4, 9, 16, 25]).toArray 3)) from (Kept.refl _ w).alloc _)
  go_enter Try.func9, Try.ntmps9
  go_upto_region 2 with (go_at_call 11; refine HR.out.mono ?_; rintro e w2 ⟨u2, rfl, ho2, hk2⟩; rw [show ([1, 4, 9, 16, 25] : List Int).length = 5 from rfl, ex_resE]; rw [ex_resL] at ho2; have HO2 := Lib.hid ho2; have K2 := Lib.hid (nix_trans K1.out hk2); clear ho2 hk2)
  clear HR K1
  have h3 : Sl ((w2.alloc (.cells (ivs [1, 4]).toArray 3)).alloc (.cells (ivs [2, 2, 2]).toArray 3)) (.slice (some ⟨w2.heap.size, 0, none⟩) 2 2) (ivs [1, 4]) := (sl_lit w2 [1, 4] 2 rfl (by decide)).nix ((Kept.refl _ _).alloc _)
  have h4 : Sl ((w2.alloc (.cells (ivs [1, 4]).toArray 3)).alloc (.cells (ivs [2, 2, 2]).toArray 3)) (.slice (some ⟨w2.heap.size + 1, 0, none⟩) 3 3) (ivs [2, 2, 2]) := by
    have h := sl_lit (w2.alloc (.cells (ivs [1, 4]).toArray 3)) [2, 2, 2] 3 rfl (by decide)
    simpa only [World.size_alloc] using h
  have HS := Lib.hid (rst_any 2 [1, 4, 9, 16, 25] _ _ _ (by decide) (by decide) (by decide) ex_bd h3 (by rw [ex_dn]; exact h4))
  have K3 := Lib.hid (show Kept Nix w2 ((w2.alloc (.cells (ivs [1, 4]).toArray 3)).alloc (.cells (ivs [2, 2, 2]).toArray 3)) from ((Kept.refl _ w2).alloc _).alloc _)
  clear h3 h4
  go_upto_region 3 with (go_at_call 17; refine HS.out.mono ?_; rintro e w4 ⟨u4, rfl, ho4, hk4⟩; have HO4 := Lib.hid ho4; have K4 := Lib.hid (nix_trans K3.out hk4); clear ho4 hk4)
  clear HS K3
  have I1 := Lib.hid (ints_row (w := w4.alloc (.cells (ivs [2, 2, 2]).toArray 3)) ((K4.out.owns HO2.out (fun _ _ h => h)).alloc _) (lit_row w4 [2, 2, 2] 3 rfl (by decide)) (by decide))
  go_wp2_with (first
    | (go_at_call 13; refine I1.out.mono ?_; rintro e w5 ⟨rfl, nn, rfl⟩
       have K5 := Lib.hid (show Kept Nix w4 ((w4.alloc (.cells (ivs [2, 2, 2]).toArray 3)).drewN nn) from ((Kept.refl _ w4).alloc _).drewN _)
       clear I1
       generalize (w4.alloc (.cells (ivs [2, 2, 2]).toArray 3)).drewN nn = w6 at *
       have I2 := Lib.hid (ints_row (w := w6.alloc (.cells (ivs [1, 4, 9, 16, 25]).toArray 3)) ((K5.out.owns HO4.out (fun _ _ h => h)).alloc _) (lit_row w6 [1, 4, 9, 16, 25] 5 rfl (by decide)) (by decide)))
    | (go_at_call 13; refine I2.out.mono ?_; rintro e w7 ⟨rfl, n7, rfl⟩))
  go_ret
  exact ⟨rfl, nix_trans (nix_trans K2.out K4.out) (((K5.out).alloc _).drewN _)⟩

end Go.Proofs.Ytoobnanbhniolaa
