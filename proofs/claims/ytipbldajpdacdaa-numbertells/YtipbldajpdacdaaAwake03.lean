/- The chapter's examples, as the statements of layer 3 ask them first. -/
import Derived.Test.YtipbldajpdacdaaNumDec
import Derived.Test.YtipbldajpdacdaaSame
namespace Go.Proofs.Ytipbldajpdacdaa
open Go.RowKit Bx Nm

/-- What Encode answers of a number that can be. -/
def EncOk (base : Nat) (w : World) (n : Nat) (e : Ending) (w' : World) : Prop :=
  ∃ ao cap, e = .returned (.tuple #[.slice ao (enc n).length cap, .int .i64 0]) ∧ w'.ownsRow base 5 1 (.slice ao (enc n).length cap) (enc n).length (u8s (enc n)) ∧ Kept Nix w w' ∧ (∀ k, (Value.slice ao (enc n).length cap).ownBlock = some k → w.heap.size ≤ k) ∧ cap ≤ maxLen ∧ (enc n).length ≤ cap

theorem encode_ok (base n : Nat) (w : World) (hn : n < 68719476736) (hb : base ≤ w.heap.size) : Calls Try.prog 10 #[.int .i64 (n : Int)] w (EncOk base w n) := by
  refine (encode_any base n w hb).mono ?_
  rintro e w' ⟨v, er, rfl, hk, _, h2⟩
  obtain ⟨rfl, ho, hv⟩ := h2 (by have := szn_pos n hn; omega)
  simp only [Int.toNat_natCast] at ho
  obtain ⟨ao, cap, rfl, h3, h4⟩ := owns_shape ho
  exact ⟨ao, cap, rfl, ho, hk, hv, h4, h3⟩

theorem enc_a : enc 8364 = [226, 130, 172] := by decide +kernel
theorem enc_b : enc 68719476735 = [254, 191, 191, 191, 191, 191, 191] := by decide +kernel
theorem szn_a : szn 8364 = 3 := by decide +kernel

set_option maxHeartbeats 400000 in
theorem awake_any (w : World) : Calls Try.prog 9 #[] w fun e w' => e = .returned (.bool true) ∧ Kept Nix w w' := by
  have HE := encode_ok 0 8364 w (by decide) (Nat.zero_le _)
  unfold EncOk at HE
  rw [enc_a] at HE
  have HE := Lib.hid HE
  go_enter Try.func9, Try.ntmps9
  go_wp2_with fail
  refine HE.out.mono ?_
  rintro e w1 ⟨a1, c1, rfl, o1, k1, _, _, _⟩
  simp only [List.length_cons, List.length_nil, Nat.zero_add, Nat.reduceAdd] at *
  have HF := encode_ok 0 68719476735 w1 (by decide) (Nat.zero_le _)
  unfold EncOk at HF
  rw [enc_b] at HF
  have HF := Lib.hid HF
  go_wp2_with fail
  refine HF.out.mono ?_
  rintro e w2 ⟨a2, c2, rfl, o2, k2, _, _, _⟩
  simp only [List.length_cons, List.length_nil, Nat.zero_add, Nat.reduceAdd] at *
  have l3 : (w2.alloc (.cells #[.int .u8 226, .int .u8 130, .int .u8 172] 5)).ownsRow 0 5 1 (.slice (some ⟨w2.heap.size, 0, none⟩) 3 3) 3 (u8s [226, 130, 172]) := World.ownsRow_lit w2 _ 3 (Nat.zero_le _) (by simp [maxLen]) rfl
  have S1 := same_any _ _ _ _ _ (sl_of_owns (k2.alloc (.cells #[.int .u8 226, .int .u8 130, .int .u8 172] 5) |>.owns o1 (fun _ _ h => h))) (sl_of_owns l3) (by decide)
  simp only [decide_true] at S1
  have S1 := Lib.hid S1
  go_wp2_with fail
  refine S1.out.mono ?_
  rintro e w3 ⟨rfl, n3, hw3⟩
  have k3 : Kept Nix w2 w3 := by rw [hw3]; exact ((Kept.refl _ w2).alloc _).drewN n3
  clear hw3 S1 HE HF l3
  have l4 : (w3.alloc (.cells #[.int .u8 254, .int .u8 191, .int .u8 191, .int .u8 191, .int .u8 191, .int .u8 191, .int .u8 191] 5)).ownsRow 0 5 1 (.slice (some ⟨w3.heap.size, 0, none⟩) 7 7) 7 (u8s [254, 191, 191, 191, 191, 191, 191]) := World.ownsRow_lit w3 _ 7 (Nat.zero_le _) (by simp [maxLen]) rfl
  have S2 := same_any _ _ _ _ _ (sl_of_owns (k3.alloc (.cells #[.int .u8 254, .int .u8 191, .int .u8 191, .int .u8 191, .int .u8 191, .int .u8 191, .int .u8 191] 5) |>.owns o2 (fun _ _ h => h))) (sl_of_owns l4) (by decide)
  simp only [decide_true] at S2
  have S2 := Lib.hid S2
  go_wp2_with fail
  refine S2.out.mono ?_
  rintro e w4 ⟨rfl, n4, hw4⟩
  have k4 : Kept Nix w w4 := by rw [hw4]; exact ((nix_trans (nix_trans k1 k2) k3).alloc _).drewN n4
  have HZ := nsize_any 8364
  rw [szn_a] at HZ
  have HZ := Lib.hid HZ
  clear hw4 S2 l4
  go_wp2_with (go_at_call 15; refine (HZ.out _).mono ?_; rintro e w' ⟨rfl, rfl⟩)
  go_ret
  exact ⟨rfl, k4⟩

end Go.Proofs.Ytipbldajpdacdaa
