/- Package lags: Of. -/
import Derived.Test.YtdifaaimjiflgaaLagOf
namespace Go.Proofs.Ytdifaaimjiflgaa
open Go.RowKit Bx

theorem owns_low {w : World} {base base' : Nat} {e : TypeId} {size : Nat} {v : Value} {n : Nat} {xs : List Value} (h : w.ownsRow base e size v n xs) (hb : base' ≤ base) : w.ownsRow base' e size v n xs := by
  refine ⟨h.1, ?_⟩
  rcases h.2 with h | ⟨g, cap, cur, h1, h2, h3⟩
  · exact .inl h
  · exact .inr ⟨g, cap, cur, h1, Nat.le_trans hb h2, h3⟩

theorem of_nums (order : Int) : min (max order 0) 32 + 1 = ((many order : Nat) : Int) ∧ (many order ≤ 33) := by
  unfold many
  exact ⟨by omega, by omega⟩

def OfPost (zs : List Int) (order : Int) (w : World) (e : Ending) (w' : World) : Prop :=
  ∃ u, e = .returned u ∧ w'.ownsRow w.heap.size 3 1 u (many order) (ivs (told zs order)) ∧ Kept Nix w w'

set_option maxHeartbeats 1000000 in
theorem of_any (v : Value) (zs : List Int) (order : Int) (w : World) (hs : Sl w v (ivs zs)) (hb : Bd 1099511627776 zs) (hm : zs.length ≤ 65535) :
    Calls Try.prog 15 #[v, .int .i64 order] w (OfPost zs order w) := by
  have HF := Lib.hid (fitted_any v zs w hs hb (by omega))
  have HP : Hid (∀ u w', w'.ownsRow w.heap.size 3 1 u (many order) (ivs (told zs order)) → Kept Nix w w' → OfPost zs order w (.returned u) w') := Lib.hid (fun u w' ho hk => ⟨u, rfl, ho, hk⟩)
  obtain ⟨n1, n2⟩ := of_nums order
  have HD := Lib.hid (dv_bd hb)
  have HL := Lib.hid (dv_length (fit zs) zs)
  have HM := Lib.hid hm
  have N2 := Lib.hid n2
  have N1 := Lib.hid n1
  unfold told at HP
  clear hs hb hm n2 n1
  generalize dv (fit zs) zs = ys at *
  generalize many order = m at *
  generalize zs.length = n at *
  go_enter Try.func15, Try.ntmps15
  go_upto_region 2 with fail
  rw [N1.out]
  clear N1
  go_wp2_with (first
    | (go_at_call 24; refine HF.out.mono ?_; rintro e w1 ⟨u1, rfl, o1, k1⟩; clear HF; obtain ⟨ao1, c1, rfl, -, -⟩ := owns_shape o1; have K1 := Lib.hid k1; have O1 := Lib.hid o1; clear o1 k1)
    | (go_at_call 23; refine (sumOf_any _ _ _ _).mono ?_; rintro e w2 ⟨rfl, rfl⟩
       have K2 := Lib.hid (K1.out.alloc (.cells #[.slice ao1 n c1] 22))
       have E1 := Lib.hid (each_any m w1.heap.size (.slice ao1 n c1) ys (w1.alloc (.cells #[.slice ao1 n c1] 22)) (by simp) (by simp) ((sl_of_owns O1.out).nix ((Kept.refl _ w1).alloc _)) HD.out (by rw [HL.out]; exact HM.out) (by have := N2.out; omega))
       generalize (w1.alloc (.cells #[.slice ao1 n c1] 22)) = w2 at *)
    | (go_at_call 22; refine E1.out.mono ?_; rintro e w3 ⟨u3, rfl, o3, k3⟩; have K3 := Lib.hid (nix_trans K2.out k3); have O3 := Lib.hid o3; have S2 := Lib.hid K2.out.size; clear o3 k3))
  go_ret
  exact HP.out _ _ (owns_low O3.out S2.out) K3.out

end Go.Proofs.Ytdifaaimjiflgaa
