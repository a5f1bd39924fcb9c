/- The chapter's example of layer 15: the contract of awake. -/
import Derived.Test.YtlbnjclchmnomaaSecPutW
import Derived.Test.YtlbnjclchmnomaaSecNums
namespace Go.Proofs.Ytlbnjclchmnomaa
open Go.RowKit Bx

theorem aw15_e : spE [0, 0] 0 false 0 [(0, false)] = 0 := by kernel_rfl
theorem aw15_b : spB [0, 0] 0 false 0 [(0, false)] = [false, false, false, false, false, false, false, false, false, false, true, true] := by kernel_rfl

/-- A slice of parts that lies apart from what turned. -/
theorem pts_other {w w' : World} {S : Nat → Prop} {u : Value} {ps : List (Int × Bool)} (h : Pts w u ps) (hk : Kept S w w') (hS : ∀ g, Own u g → ¬ S g) : Pts w' u ps := by
  obtain ⟨ao, cap, rfl, h1, h2, h3⟩ := h
  refine ⟨ao, cap, rfl, h1, h2, fun h0 => ?_⟩
  obtain ⟨b, off, e2, hb, hc⟩ := h3 h0
  have hbl := hk.block b hb (hS b (by rw [e2]; rfl))
  exact ⟨b, off, e2, Nat.lt_of_lt_of_le hb hk.size, fun j hj => ⟨(World.cell?_of_block hbl).trans (hc j hj).1, (World.cell?_of_block hbl).trans (hc j hj).2⟩⟩

/-- Nothing that was there, apart from the writer, has turned. -/
theorem only_pts {w0 w w' : World} {p : Nat} {v u : Value} {ps : List (Int × Bool)} (h : Pts w0 u ps) (k : Kept Nix w0 w) (hf : ∀ j, Only p v j → w0.heap.size ≤ j) (hk : Kept (Only p v) w w') : Pts w' u ps := h.nix (nix_put k hk hf)
theorem only_sl {w0 w w' : World} {p : Nat} {v u : Value} {xs : List Value} (h : Sl w0 u xs) (k : Kept Nix w0 w) (hf : ∀ j, Only p v j → w0.heap.size ≤ j) (hk : Kept (Only p v) w w') : Sl w' u xs := h.nix (nix_put k hk hf)

set_option maxRecDepth 10000 in
set_option maxHeartbeats 2000000 in
theorem awake_any (w : World) : Calls Try.prog 6 #[] w fun e w' => e = .returned (.bool true) ∧ Kept Nix w w' := by
  have HN := Lib.hid (new_any w.heap.size w (Nat.le_refl _))
  go_enter Try.func6, Try.ntmps6
  go_upto_region 4 with (go_at_call 8; refine HN.out.mono ?_; rintro e w1 ⟨p, rfl, hp, hw1, hk1⟩; have HP := Lib.hid hp; have W1 := Lib.hid hw1; have K1 := Lib.hid hk1; clear hp hw1 hk1)
  clear HN
  have hi := sl_lit w1 [0, 0] 2 rfl (by decide)
  have ki : Kept Nix w1 (w1.alloc (.cells (ivs [0, 0]).toArray 3)) := (Kept.refl _ _).alloc _
  have hsz : (w1.alloc (.cells (ivs [0, 0]).toArray 3)).heap.size = w1.heap.size + 1 := by simp
  have kp : Kept Nix (w1.alloc (.cells (ivs [0, 0]).toArray 3)) ((w1.alloc (.cells (ivs [0, 0]).toArray 3)).alloc (.cells #[.int .i64 0, .bool false] 50)) := (Kept.refl _ _).alloc _
  have hpp : Pts ((w1.alloc (.cells (ivs [0, 0]).toArray 3)).alloc (.cells #[.int .i64 0, .bool false] 50)) (.slice (some ⟨w1.heap.size + 1, 0, none⟩) 1 1) [(0, false)] := by
    have h := World.ownsRow_lit (base := 0) (e := 50) (size := 2) (w1.alloc (.cells (ivs [0, 0]).toArray 3)) #[.int .i64 0, .bool false] 1 (Nat.zero_le _) (by simp [maxLen]) rfl
    rw [hsz] at h
    exact pts_of_owns (ps := [(0, false)]) h
  have hpl := W1.out.lt
  have hw3 := W1.out.kept (nix_trans ki kp) (fun h => h) (fun _ _ h => h)
  have hdis : ∀ j, Only p (.slice none 0 0) j → j = p := fun j hj => (only_nil p j).1 hj
  have sput := sput_any w.heap.size p (.slice none 0 0) [] (.slice (some ⟨w1.heap.size, 0, none⟩) 2 2) [0, 0] 0 false 0 (.slice (some ⟨w1.heap.size + 1, 0, none⟩) 1 1) [(0, false)] _ hw3
    (fun w' hk => (hi.nix kp).sameOwn (fun g hg => hk.block g (by simp [Own, Value.ownBlock] at hg; subst hg; have := kp.size; omega) (fun e => by have h1 := hdis g e; simp [Own, Value.ownBlock] at hg; omega)))
    (fun w' hk => by
      have hk2 : Kept (One p) _ w' := hk.mono (fun j hj => hdis j hj)
      refine pts_other hpp hk2 (fun g hg e => ?_)
      simp [Own, Value.ownBlock] at hg
      have e : g = p := e
      omega)
    (by decide) (by decide) (by decide) (by have h1 := K1.out.size; have h2 := ki.size; have h3 := kp.size; omega)
  rw [aw15_e, aw15_b, List.nil_append] at sput
  have SP := Lib.hid sput
  have K3 := Lib.hid (nix_trans K1.out (nix_trans ki kp))
  have HDP := Lib.hid hdis
  clear hi ki kp hpp hw3 hpl hdis hsz sput W1
  go_wp2_with (go_at_call 9; refine SP.out.mono ?_; rintro e w4 ⟨rfl, p4⟩; clear SP)
  obtain ⟨v4, r4, k4, n4⟩ := p4.wr
  have hk4 : Kept Nix w w4 := nix_put K3.out k4 (fun j hj => by rw [HDP.out j hj]; exact HP.out)
  have hs4 := hk4.size
  obtain ⟨B, hpk, hby⟩ := bytes_of_wr r4 (by decide) (by decide) hs4
  have hB : B = [0, 48] := by
    have h8 := hpk.2.1
    refine be_inj 2 B [0, 48] (by have : pad ([false, false, false, false, false, false, false, false, false, false, true, true] : List Bool).length = 4 := by decide
                                  rw [this] at h8; simp only [List.length_cons, List.length_nil] at h8; omega) rfl hpk.1 (by decide) ?_
    rw [hpk.2.2.1]; decide
  subst hB
  have HL := Lib.hid (len_any w.heap.size p v4 _ _ _ w4 r4)
  have HB := Lib.hid hby
  have K4 := Lib.hid hk4
  clear hpk hby p4 k4 n4 hk4 r4 hs4
  go_wp2_with (first
    | (go_at_call 11; refine HL.out.mono ?_; rintro e w' ⟨rfl, rfl⟩)
    | (go_at_call 13; refine HB.out.mono ?_; rintro e w5 ⟨v5, rfl, ho5, hk5, hv5⟩; have hl5 : (w5.alloc (.cells #[.int .u8 0, .int .u8 48] 5)).ownsRow 0 5 1 (.slice (some ⟨w5.heap.size, 0, none⟩) 2 2) 2 (u8s [0, 48]) := World.ownsRow_lit w5 #[.int .u8 0, .int .u8 48] 2 (Nat.zero_le _) (by simp [maxLen]) rfl; have HS := Lib.hid (same_any _ _ [0, 48] [0, 48] (w5.alloc (.cells #[.int .u8 0, .int .u8 48] 5)) (sl_of_owns (ho5.alloc _)) (sl_of_owns hl5) (by decide)); have K5 := Lib.hid (nix_trans K4.out hk5); clear ho5 hl5 hk5 hv5)
    | (go_at_call 19; refine HS.out.mono ?_; rintro e w6 ⟨rfl, n6, rfl⟩))
  go_ret
  exact ⟨rfl, (K5.out.alloc _).drewN n6⟩

end Go.Proofs.Ytlbnjclchmnomaa
