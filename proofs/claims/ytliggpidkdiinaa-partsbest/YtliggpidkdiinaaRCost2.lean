/- The reference of layer 13: Ways. -/
import Derived.Test.YtliggpidkdiinaaRCost1
namespace Go.Proofs.Ytliggpidkdiinaa
open Go.RowKit Bx

theorem info_part : (Try.prog.info? 39).map (fun i => (i.zero, i.size, i.bytes)) = some (some (.agg #[.int .i64 0, .bool false]), 2, 16) := by kernel_rfl

/-- The cells of parts. -/
def pcs : List (Int × Bool) → List Value
  | [] => []
  | p :: ps => .int .i64 p.1 :: .bool p.2 :: pcs ps

theorem pcs_append (A B : List (Int × Bool)) : pcs (A ++ B) = pcs A ++ pcs B := by
  induction A with
  | nil => rfl
  | cons p A ih => simp [pcs, ih]

theorem pcs_get (ps : List (Int × Bool)) (i : Nat) (hi : i < ps.length) : (pcs ps)[2 * i]? = some (.int .i64 (ps.getD i (0, false)).1) ∧ (pcs ps)[2 * i + 1]? = some (.bool (ps.getD i (0, false)).2) := by
  induction ps generalizing i with
  | nil => simp at hi
  | cons p ps ih =>
    cases i with
    | zero => simp [pcs]
    | succ i =>
      have := ih i (by simpa using hi)
      rw [show 2 * (i + 1) = 2 * i + 1 + 1 by omega]
      simpa [pcs] using this

/-- All ways, in order. -/
def kways (m : Nat) : List (Int × Bool) := (List.range m).map (fun k : Nat => ((k : Int), false))
def wys (L : List Int) (m : Nat) : List (Int × Bool) := kways (m + 1) ++ if cw L ≤ 31 then [((cw L : Int), true)] else []

theorem kways_succ (m : Nat) : kways (m + 1) = kways m ++ [((m : Int), false)] := by simp [kways, List.range_succ]
theorem kways_length (m : Nat) : (kways m).length = m := by simp [kways]

theorem src_part (w : World) (x y : Value) (t : TypeId) (h1 : x.oneCell' = true) (h2 : y.oneCell' = true) : SrcIs (w.alloc (.cells #[x, y] t)) 2 (some ⟨w.heap.size, 0, none⟩) 1 1 [x, y] := by
  refine ⟨rfl, fun h => by simp at h, ?_, by simp [h1, h2]⟩
  rintro ad h j u hu
  obtain rfl := Option.some.inj h
  match j, hu with
  | 0, hu =>
    simp at hu
    subst hu
    simp [Addr.add]
  | 1, hu =>
    simp at hu
    subst hu
    simp [Addr.add]

def WaysInv (v : Value) (most : Int) (w : World) (a : Act) (w' : World) : Prop :=
  a.defers = [] ∧ a.tmps.size = 38 ∧ a.tmps[0]? = some v ∧ a.tmps[1]? = some (.int .i64 most) ∧ ∃ k : Nat, 1 ≤ k ∧ k ≤ kk most + 1 ∧ a.tmps[6]? = some (.int .i64 (k : Int)) ∧ ∃ u, a.tmps[5]? = some u ∧ w'.ownsRow w.heap.size 39 2 u k (pcs (kways k)) ∧ Kept Nix w w'

theorem ways_test (most : Int) (k : Nat) (h1 : 1 ≤ k) (h2 : k ≤ kk most + 1) : (k ≤ kk most ∧ decide ((k : Int) ≤ most) = true ∧ decide ((k : Int) ≤ 30) = true) ∨ (k = kk most + 1 ∧ ((decide ((k : Int) ≤ most) = false) ∨ (decide ((k : Int) ≤ most) = true ∧ decide ((k : Int) ≤ 30) = false))) := by
  simp only [decide_eq_true_eq, decide_eq_false_iff_not]
  unfold kk at *
  omega

set_option maxRecDepth 10000 in
set_option maxHeartbeats 2000000 in
theorem rways_any (v : Value) (L : List Int) (most : Int) (w : World) (hv : Sl w v (ivs L)) (hl : L.length ≤ 1048576) (hn : nrs L = true) :
    Calls Try.prog 45 #[v, .int .i64 most] w fun e w' => ∃ u, e = .returned u ∧ w'.ownsRow w.heap.size 39 2 u (wys L (kk most)).length (pcs (wys L (kk most))) ∧ Kept Nix w w' := by
  obtain ⟨ao, ca, rfl, -⟩ := hv.ints
  have hq : cwid L = (cw L : Int) := by unfold cwid; rw [if_pos hn]
  have WD := fun w' (h : Kept Nix w w') => rcwidth_any _ L w' (hv.nix h) hl
  rw [hq] at WD
  have WD := Lib.hid WD
  have hown := World.ownsRow_lit (base := w.heap.size) (e := 39) (size := 2) w #[.int .i64 0, .bool false] 1 (Nat.le_refl _) (by simp [maxLen]) (by simp)
  have HO := Lib.hid hown
  have HK := Lib.hid ((Kept.refl Nix w).alloc (.cells #[.int .i64 0, .bool false] 39))
  clear hv hl hn hq hown
  go_enter Try.func45, Try.ntmps45
  go_wp2
  refine wp_loop (WaysInv (.slice ao L.length ca) most w) (fun a _ => 60 - (intOf (a.tmps.getD 6 undef)).toNat) ?_ ?_
  · exact ⟨rfl, rfl, rfl, rfl, 1, Nat.le_refl _, by omega, rfl, _, rfl, HO.out, HK.out⟩
  · clear HO HK
    rintro ⟨tm, df⟩ w1 ⟨rfl, hs, e0, e1, k, hk1, hk2, e6, u, e5, ho, hk⟩
    simp only at hs e0 e1 e6 e5
    obtain ⟨f, hf, hg⟩ := fr_open hs
    have g0 := hg _ _ e0
    have g1 := hg _ _ e1
    have g6 := hg _ _ e6
    have g5 := hg _ _ e5
    simp only [List.range, List.range.loop, List.map] at hf
    rw [g0, g1, g6, g5] at hf
    clear g0 g1 g6 g5 hg hs e0 e1 e6 e5
    subst hf
    have HO := Lib.hid ho
    have HK := Lib.hid hk
    clear ho hk
    rcases ways_test most k hk1 hk2 with ⟨hlt, t1, t2⟩ | ⟨hke, ht⟩
    · have hk30 := kk_le most
      have HW := Lib.hid (show wrap64 ((k : Int) + 1) = ((k + 1 : Nat) : Int) by rw [w64_in _ (by omega)]; omega)
      have HM := Lib.hid (show 60 - (k + 1) < 60 - k by omega)
      have HLT := Lib.hid (show k + 1 ≤ kk most + 1 by omega)
      have M3 := Lib.hid (show k + 1 ≤ maxLen by simp only [maxLen]; omega)
      have M4 := Lib.hid (show (k + 1) * 16 ≤ 140737488355328 by omega)
      have O5 := Lib.hid (HO.out.alloc (.cells #[.int .i64 (k : Int), .bool false] 39))
      have HBS := Lib.hid (show w.heap.size ≤ (w1.alloc (.cells #[.int .i64 (k : Int), .bool false] 39)).heap.size from (HK.out.alloc _).size)
      clear hk1 hk2 hlt hk30
      go_wp2_with (
        refine wpList_app _ rfl _ _ 24 rfl w.heap.size 39 (.agg #[.int .i64 0, .bool false]) 2 16 Try.underlying24 info_part rfl (by decide) _ _ _ rfl O5.out _ 1 1 [.int .i64 (k : Int), .bool false] rfl (src_part w1 _ _ _ rfl rfl) M3.out M4.out HBS.out ?_
        intro v6 w6 o6 g6 n6; have k6 : Kept Nix w w6 := (HK.out.alloc _).grown g6 (fun kk hkk => .inr (O5.out.lt kk hkk).1); have K6 := Lib.hid k6; have O6 := Lib.hid o6; clear k6 o6 g6 n6)
      rw [HW.out]
      refine ⟨⟨rfl, rfl, rfl, rfl, k + 1, by omega, HLT.out, rfl, v6, rfl, ?_, K6.out⟩, HM.out⟩
      rw [kways_succ, pcs_append]
      exact O6.out
    · have HKE := Lib.hid hke
      have hk30 := kk_le most
      obtain ⟨uo, uc, rfl, -⟩ := owns_shape HO.out
      have W1 := Lib.hid (WD.out w1 HK.out)
      have t0 : decide ((0 : Int) ≤ (cw L : Int)) = true := decide_eq_true (by omega)
      by_cases hc : cw L ≤ 31
      · have t3 : decide ((cw L : Int) ≤ 31) = true := decide_eq_true (by omega)
        have M3 := Lib.hid (show k + 1 ≤ maxLen by simp only [maxLen]; omega)
        have M4 := Lib.hid (show (k + 1) * 16 ≤ 140737488355328 by omega)
        have O5 := Lib.hid (HO.out.alloc (.cells #[.int .i64 (cw L : Int), .bool true] 39))
        have HBS := Lib.hid (show w.heap.size ≤ (w1.alloc (.cells #[.int .i64 (cw L : Int), .bool true] 39)).heap.size from (HK.out.alloc _).size)
        have HWY := Lib.hid (show wys L (kk most) = kways k ++ [((cw L : Int), true)] by unfold wys; rw [if_pos hc, hke])
        have HWL := Lib.hid (show (wys L (kk most)).length = k + 1 by unfold wys; rw [if_pos hc, hke]; simp [kways_length])
        clear hk1 hk2 hk30 hc hke WD
        generalize hcc : cw L = c at *
        rcases ht with t1 | ⟨t1, t2⟩
        all_goals
          go_wp2_with (first
            | (go_at_call 47; refine W1.out.mono ?_; rintro e w2 ⟨rfl, rfl⟩; clear W1)
            | (refine wpList_app _ rfl _ _ 24 rfl w.heap.size 39 (.agg #[.int .i64 0, .bool false]) 2 16 Try.underlying24 info_part rfl (by decide) _ _ _ rfl O5.out _ 1 1 [.int .i64 (c : Int), .bool true] rfl (src_part _ _ _ _ rfl rfl) M3.out M4.out HBS.out ?_
               intro v6 w6 o6 g6 n6; have k6 : Kept Nix w w6 := (HK.out.alloc _).grown g6 (fun kk hkk => .inr (O5.out.lt kk hkk).1); have K6 := Lib.hid k6; have O6 := Lib.hid o6; clear k6 o6 g6 n6))
          go_ret
          refine ⟨_, rfl, ?_, K6.out⟩
          rw [HWL.out, HWY.out, pcs_append]
          exact O6.out
      · have t3 : decide ((cw L : Int) ≤ 31) = false := decide_eq_false (by omega)
        have HWY := Lib.hid (show wys L (kk most) = kways k by unfold wys; rw [if_neg hc, List.append_nil, hke])
        clear hk1 hk2 hk30 hc hke WD
        generalize hcc : cw L = c at *
        rcases ht with t1 | ⟨t1, t2⟩
        all_goals
          go_wp2_with (first
            | (go_at_call 47; refine W1.out.mono ?_; rintro e w2 ⟨rfl, rfl⟩; clear W1))
          go_ret
          refine ⟨_, rfl, ?_, HK.out⟩
          rw [HWY.out, kways_length]
          exact HO.out

end Go.Proofs.Ytliggpidkdiinaa
