/- The chapter's example, as the statements of layer 2 ask it first. -/
import Derived.Test.YtlhplgeohffjeaaRicePut
namespace Go.Proofs.Ytlhplgeohffjeaa
open Go.RowKit Bx

set_option maxHeartbeats 400000 in
theorem awake_any (w : World) : Calls Try.prog 8 #[] w fun e w' => e = .returned (.bool true) ∧ Kept Nix w w' := by
  have HN := Lib.hid (new_any w.heap.size w (Nat.le_refl _))
  go_enter Try.func8, Try.ntmps8
  go_wp2_with fail
  refine HN.out.mono ?_
  rintro e w1 ⟨p, rfl, hp, hw1, hk1⟩
  have hs1 := hk1.size
  have H1 := Lib.hid (ricePut_any w.heap.size p (.slice none 0 0) 0 0 (-3) 1 w1 (by simpa [pad] using hw1) (by omega) hs1)
  go_wp2_with fail
  refine H1.out.mono ?_
  intro e w2 hpost
  rcases hpost with ⟨h, _⟩ | ⟨_, h, _⟩ | ⟨_, _, rfl, v2, hw2, hk2, hv2⟩
  · exact absurd h (by decide)
  · exact absurd h (by decide)
  have hs2 := hk2.size
  have e3 : rlay 0 (-3) 1 = 3 := by decide
  have e2 : 0 + rlen (-3) 1 = 4 := by decide
  rw [e3, e2] at hw2
  have hw2' : Wr w.heap.size w2 p v2 3 4 4 := hw2
  have hk2' : Kept Nix w w2 := nix_put hk1 hk2 (fun j hj => by
    rcases hj with h | h
    · omega
    · simp [Value.ownBlock] at h)
  clear hw1 hw2 hk2 hv2 e3 e2 HN H1
  obtain ⟨B, hpk, hby⟩ := bytes_of_wr hw2' (by omega) (by omega) (by omega)
  have hB : B = [48] := by
    refine be_inj 1 B [48] (by have := hpk.2.1; omega) rfl hpk.1 (by decide) ?_
    rw [hpk.2.2.1]; decide
  subst hB
  have HL := Lib.hid (len_any w.heap.size p v2 3 4 4 w2 hw2')
  have HB := Lib.hid hby
  clear hpk hby
  go_wp2_with (first | (go_at_call 23; refine HL.out.mono ?_; rintro e w' ⟨rfl, rfl⟩) | fail)
  refine HB.out.mono ?_
  rintro e w4 ⟨v4, rfl, ho4, hk4, hv4⟩
  have hl4 : (w4.alloc (.cells #[.int .u8 48] 5)).ownsRow 0 5 1 (.slice (some ⟨w4.heap.size, 0, none⟩) 1 1) 1 (u8s [48]) := World.ownsRow_lit w4 #[.int .u8 48] 1 (Nat.zero_le _) (by simp [maxLen]) rfl
  have HS := Lib.hid (same_any _ _ [48] [48] (w4.alloc (.cells #[.int .u8 48] 5)) (sl_of_owns (ho4.alloc _)) (sl_of_owns hl4) (by decide))
  have HZ := size_any (-3) 1
  rw [show sz (-3) 1 = 4 by decide] at HZ
  have HZ := Lib.hid HZ
  have HF := fold_any (-3)
  rw [show fd (-3) = 5 by decide] at HF
  have HF := Lib.hid HF
  go_wp2_with fail
  refine HS.out.mono ?_
  rintro e w5 ⟨rfl, n5, rfl⟩
  go_wp2_with (first | (go_at_call 15; refine (HZ.out _).mono ?_; rintro e w' ⟨rfl, rfl⟩) | (go_at_call 9; refine (HF.out _ (by decide) (by decide)).mono ?_; rintro e w' ⟨rfl, rfl⟩))
  go_ret
  exact ⟨rfl, ((nix_trans hk2' hk4).alloc _).drewN n5⟩

end Go.Proofs.Ytlhplgeohffjeaa
