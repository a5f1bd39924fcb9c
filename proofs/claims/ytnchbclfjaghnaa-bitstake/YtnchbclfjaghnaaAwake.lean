/- The chapter's example, as the statements ask it first: it is answered with true, and nothing that was there has turned. -/
import Derived.Test.YtnchbclfjaghnaaSmall
namespace Go.Proofs.Ytnchbclfjaghnaa
open Go.RowKit Bx

/-- A call of the writer's, from the writer's state alone. -/
theorem bytes_of_wr {base p : Nat} {v : Value} {N c r : Nat} {w : World} (h : Wr base w p v N c r) (hc : c < 1099511627776) (hr : r ≤ 8) (hb : base ≤ w.heap.size) :
    ∃ B, Pk B N c r ∧ Calls Try.prog 16 #[.pointer (some ⟨p, 0, none⟩)] w (ClonePost base w B) := by
  obtain ⟨_, hp, _, B, ho, hpk⟩ := h
  exact ⟨B, hpk, bytes_any base p v N c r B w hp ho hpk hc hr hb⟩

theorem nix_trans {a b c : World} (h : Kept Nix a b) (k : Kept Nix b c) : Kept Nix a c := h.trans k (fun _ h => h) (fun _ _ h => h)
/-- What touches only what is new keeps all that was there. -/
theorem nix_put {S : Nat → Prop} {a b c : World} (h : Kept Nix a b) (k : Kept S b c) (hS : ∀ j, S j → a.heap.size ≤ j) : Kept Nix a c := h.trans k (fun _ h => h) (fun j hj e => by have := hS j e; omega)

set_option maxHeartbeats 400000 in
theorem awake_any (w : World) : Calls Try.prog 9 #[] w fun e w' => e = .returned (.bool true) ∧ Kept Nix w w' := by
  have HN := Lib.hid (new_any w.heap.size w (Nat.le_refl _))
  go_enter Try.func9, Try.ntmps9
  go_wp2_with fail
  refine HN.out.mono ?_
  rintro e w1 ⟨p, rfl, hp, hw1, hk1⟩
  have hs1 := hk1.size
  have H1 := Lib.hid (put_any w.heap.size p (.slice none 0 0) 0 0 5 3 w1 hw1 (by omega) hs1)
  go_wp2_with fail
  refine H1.out.mono ?_
  rintro e w2 ⟨rfl, v2, hw2, hk2, hv2⟩
  have hs2 := hk2.size
  have e3 : wid 3 = 3 := by decide
  have e2 : wid 2 = 2 := by decide
  have hw2' : Wr w.heap.size w2 p v2 5 3 5 := by rw [e3] at hw2; exact hw2
  have hk2' : Kept Nix w w2 := nix_put hk1 hk2 (fun j hj => by
    rcases hj with h | h
    · omega
    · simp [Value.ownBlock] at h)
  have H2 := Lib.hid (put_any w.heap.size p v2 5 3 1 2 w2 hw2' (by omega) (by omega))
  clear hw1 hw2 hk2 hv2 e3 HN H1
  go_wp2_with fail
  refine H2.out.mono ?_
  rintro e w3 ⟨rfl, v3, hw3, hk3, hv3⟩
  have hs3 := hk3.size
  have hw3' : Wr w.heap.size w3 p v3 21 5 3 := by rw [e2] at hw3; exact hw3
  have hk3' : Kept Nix w w3 := nix_put hk2' hk3 (fun j hj => by
    rcases hj with h | h
    · omega
    · exact (hw2'.own h).1)
  clear e2 H2 hw3 hk3 hv3 hw2' hk2'
  obtain ⟨B, hpk, hby⟩ := bytes_of_wr hw3' (by omega) (by omega) (by omega)
  have hB : B = [168] := by
    refine be_inj 1 B [168] (by have := hpk.2.1; omega) rfl hpk.1 (by decide) ?_
    rw [hpk.2.2.1]; decide
  subst hB
  have HL := Lib.hid (len_any w.heap.size p v3 21 5 3 w3 hw3')
  have HB := Lib.hid hby
  clear hpk hby
  go_wp2_with (first | (go_at_call 14; refine HL.out.mono ?_; rintro e w' ⟨rfl, rfl⟩) | fail)
  refine HB.out.mono ?_
  rintro e w4 ⟨v4, rfl, ho4, hk4, hv4⟩
  have hl4 : (w4.alloc (.cells #[.int .u8 168] 5)).ownsRow 0 5 1 (.slice (some ⟨w4.heap.size, 0, none⟩) 1 1) 1 (u8s [168]) := World.ownsRow_lit w4 #[.int .u8 168] 1 (Nat.zero_le _) (by simp [maxLen]) rfl
  have HS := Lib.hid (same_any _ _ [168] [168] (w4.alloc (.cells #[.int .u8 168] 5)) (sl_of_owns (ho4.alloc _)) (sl_of_owns hl4) (by decide))
  go_wp2_with fail
  refine HS.out.mono ?_
  rintro e w5 ⟨rfl, n5, rfl⟩
  go_wp2
  go_ret
  exact ⟨rfl, ((nix_trans hk3' hk4).alloc _).drewN n5⟩

end Go.Proofs.Ytnchbclfjaghnaa
