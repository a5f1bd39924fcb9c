/- The chapter's example of layer 10: the contract of awake. -/
import Derived.Test.YtdifaaimjiflgaaSolRef
namespace Go.Proofs.Ytdifaaimjiflgaa
open Go.RowKit Bx

theorem sol_ex : sol [4, 2, 1] 2 = [[524288], [524288, 0]] := by decide
theorem rt_ex : Rt [4, 2, 1] := rt_of (by decide)

/-- What the call's own rows tell, in any world that kept them. -/
theorem rack_cells {base : Nat} {w : World} {u : Value} {us : List Value} {L : List (List Int)} (h : Rack base w u us L) : Chs w u L := h.chs

set_option maxHeartbeats 2000000 in
theorem awake_any (w : World) : Calls Try.prog 9 #[] w fun e w' => e = .returned (.bool true) ∧ Kept Nix w w' := by
  have K1 := Lib.hid (show Kept Nix w (w.alloc (.cells (ivs [4, 2, 1]).toArray 3)) from (Kept.refl _ w).alloc _)
  have O1 := Lib.hid (solve_any _ [4, 2, 1] 2 _ (sl_lit w [4, 2, 1] 3 rfl (by decide)) rt_ex (by decide))
  unfold SolPost at O1
  rw [sol_ex] at O1
  go_enter Try.func9, Try.ntmps9
  go_upto_region 2 with (go_at_call 12; refine O1.out.mono ?_; rintro e w2 ⟨u2, us2, rfl, r2, k2⟩; clear O1; have K2 := Lib.hid (nix_trans K1.out k2); have S2 := Lib.hid r2.chs; clear r2 k2)
  obtain ⟨ao, ca, rfl, hc1, hm1, -⟩ := S2.out.open
  obtain ⟨b, o, rfl, hb, A, C, hh⟩ := S2.out.at (by decide)
  obtain ⟨y0, s0⟩ := hh 0 (by decide)
  obtain ⟨y1, s1⟩ := hh 1 (by decide)
  clear hh
  simp only [List.getD_cons_zero, List.getD_cons_succ, List.length_cons, List.length_nil, Nat.zero_add, Nat.add_zero, Nat.reduceAdd] at y0 y1 s0 s1 hc1 ⊢
  have I1 := Lib.hid (ints_eq (sl_ivs (s0.nix ((Kept.refl _ w2).alloc _))) (sl_lit w2 [524288] 1 rfl (by decide)) (by decide) rfl)
  have Y1 := Lib.hid (fun w' (k : Kept Nix w2 w') => (World.cell?_of_block (k.block _ hb id)).trans y1)
  have S1 := Lib.hid s1
  generalize A 0 = a0 at *
  generalize C 0 = c0 at *
  generalize A 1 = a1 at *
  generalize C 1 = c1 at *
  clear s0 s1 y1 hc1 hb
  go_wp2_with (first
    | (go_at_call 16; refine I1.out.mono ?_; rintro e w3 ⟨rfl, nn, rfl⟩; clear I1
       have K3 := Lib.hid (show Kept Nix w2 ((w2.alloc (.cells (ivs [524288]).toArray 3)).drewN nn) from ((Kept.refl _ w2).alloc _).drewN _)
       generalize (w2.alloc (.cells (ivs [524288]).toArray 3)).drewN nn = w3 at *
       have z1 := Y1.out w3 K3.out
       have I2 := Lib.hid (ints_eq (sl_ivs (S1.out.nix (K3.out.alloc _))) (sl_lit w3 [524288, 0] 2 rfl (by decide)) (by decide) rfl))
    | (go_at_call 16; refine I2.out.mono ?_; rintro e w4 ⟨rfl, nn, rfl⟩; clear I2))
  go_ret
  exact ⟨rfl, nix_trans K2.out ((K3.out.alloc _).drewN _)⟩

end Go.Proofs.Ytdifaaimjiflgaa
