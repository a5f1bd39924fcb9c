/- The reference's Plans: all of them. -/
import Derived.Test.YtliggpidkdiinaaRPtPlan2
namespace Go.Proofs.Ytliggpidkdiinaa
open Go.RowKit Bx

def twT (wide : Bool) (F m wn : Nat) : List (Bool × Nat) := (if 1 ≤ wn then tw false (false && !wide) F (m + 1) else []) ++ (if 2 ≤ wn then tw true (true && !wide) F (m + 1) else [])

theorem twT_zero (wide : Bool) (F m : Nat) : twT wide F m 0 = [] := rfl
theorem twT_next (wide : Bool) (F m wn : Nat) (wd : Bool) (h : wn ≤ 1) (hw : wd = decide (wn = 1)) : twT wide F m wn ++ tw wd (wd && !wide) F (m + 1) = twT wide F m (wn + 1) := by
  have : wn = 0 ∨ wn = 1 := by omega
  rcases this with rfl | rfl
  · subst hw
    simp [twT]
  · subst hw
    simp [twT]

/-- How many plans there are. -/
def plM (wide : Bool) (F : Nat) : Nat := if wide = true then 2 * F + 2 else F + 1

theorem twT_all (wide : Bool) {F m : Nat} (h : F ≤ m) : twT wide F m 2 = (List.range (plM wide F)).map (plG F) := by
  have e1 : (List.range (F + 1)).map (fun i => (false, i)) = (List.range (F + 1)).map (plG F) := List.map_congr_left (fun i hi => by
    have := List.mem_range.1 hi
    unfold plG
    rw [if_pos (by omega)])
  have e2 : (List.range (F + 1)).map (fun i => (true, i)) = (List.range (F + 1)).map (fun i => plG F (F + 1 + i)) := List.map_congr_left (fun i _ => by
    unfold plG
    rw [if_neg (by omega), show F + 1 + i - F - 1 = i by omega])
  have e3 : min (m + 1) (F + 1) = F + 1 := by omega
  unfold twT plM
  rw [if_pos (show (1 : Nat) ≤ 2 by omega), if_pos (show (2 : Nat) ≤ 2 by omega)]
  unfold tw
  rw [e3, if_neg (show ¬ (false && !wide) = true by simp)]
  cases wide with
  | false =>
    rw [if_pos (show (true && !false) = true from rfl), if_neg (show ¬ false = true by simp), List.append_nil]
    exact e1
  | true =>
    rw [if_neg (show ¬ (true && !true) = true by simp), if_pos rfl, e1, e2, show 2 * F + 2 = (F + 1) + (F + 1) by omega, show List.range ((F + 1) + (F + 1)) = List.range (F + 1) ++ (List.range (F + 1)).map (fun x => F + 1 + x) from List.range_add, List.map_append, List.map_map]
    rfl

theorem twT_len (wide : Bool) (F m wn : Nat) (hm : m ≤ 8) (hwn : wn ≤ 1) : (twT wide F m wn).length ≤ 16 := by
  unfold twT
  have h1 := tw_len false (false && !wide) F (m + 1)
  rw [if_neg (show ¬ 2 ≤ wn by omega), List.append_nil]
  split
  · omega
  · exact Nat.zero_le _

def Rpl1Inv (vl : Value) (L : List Int) (k m : Nat) (wide : Bool) (wz : World) (a : Act) (w' : World) : Prop :=
  ∃ (uo : Option Addr) (uc wn : Nat), RplA vl k m wide wn (.slice uo (twT wide (fin L.length k m) m wn).length uc) a ∧ wn ≤ 2 ∧
    PlR wz.heap.size w' (.slice uo (twT wide (fin L.length k m) m wn).length uc) (plF L k) (twT wide (fin L.length k m) m wn) ∧ Kept Nix wz w'

set_option maxRecDepth 10000 in
set_option maxHeartbeats 4000000 in
theorem rplans_any (vl : Value) (L : List Int) (k m : Nat) (wide : Bool) (w : World) (hv : Sl w vl (ivs L)) (hl : L.length ≤ 1048576) (hn : nrs L = true) (h0 : 0 < L.length) (hk : k ≤ 1048576) (hm : m ≤ 8) :
    Calls Try.prog 21 #[vl, .int .i64 (k : Int), .int .i64 (m : Int), .bool wide] w fun e w' => ∃ u, e = .returned u ∧ PlR w.heap.size w' u (plF L k) ((List.range (plM wide (fin L.length k m))).map (plG (fin L.length k m))) ∧ Kept Nix w w' := by
  obtain ⟨ao, ac, rfl, -⟩ := hv.ints
  have L2 := Lib.hid (fun wn wd vo a w1 Q (hh : RplA (.slice ao L.length ac) k m wide wn vo a) (h11 : a.tmps[11]? = some (.int .i64 0)) (h1 : Kept Nix w w1) (hT : PlR w.heap.size w1 vo (plF L k) (twT wide (fin L.length k m) m wn)) (hwn : wn ≤ 1) (hwd : wd = decide (wn = 1)) hQ => rpl_l2 _ L k m wide wn wd vo (twT wide (fin L.length k m) m wn) a w w1 Q hh h11 hv h1 hT (twT_len _ _ _ _ hm hwn) hwn hwd hl hn h0 hk hm hQ)
  rw [← twT_all wide (fin_le L.length k m)]
  clear hv hl hn h0 hk hm
  go_enter Try.func21, Try.ntmps21
  go_wp2
  refine wp_loop (Rpl1Inv (.slice ao L.length ac) L k m wide w) (fun a _ => 2 - (intOf (a.tmps.getD 10 undef)).toNat) ?_ ?_
  · exact ⟨none, 0, 0, ⟨rfl, rfl, rfl, rfl, rfl, rfl, rfl, rfl⟩, by omega, PlR.nil _ _ _, Kept.refl _ _⟩
  · rintro ⟨tm, df⟩ w2 ⟨uo, uc, wn, ⟨rfl, hs, e0, e1, e2, e3, e10, e9⟩, hwn, hT, hk⟩
    simp only at hs e0 e1 e2 e3 e10 e9
    obtain ⟨f, hf, hg⟩ := fr_open hs
    have g0 := hg _ _ e0
    have g1 := hg _ _ e1
    have g2 := hg _ _ e2
    have g3 := hg _ _ e3
    have g10 := hg _ _ e10
    have g9 := hg _ _ e9
    simp only [List.range, List.range.loop, List.map] at hf
    rw [g0, g1, g2, g3, g10, g9] at hf
    clear g0 g1 g2 g3 g10 g9 hg hs e0 e1 e2 e3 e10 e9
    subst hf
    have HT := Lib.hid hT
    have HK := Lib.hid hk
    clear hT hk
    by_cases hlt : wn < 2
    · have hdd : decide ((wn : Int) < 2) = true := decide_eq_true (by omega)
      have HW := Lib.hid (show wrap64 ((wn : Int) + 1) = ((wn + 1 : Nat) : Int) by rw [w64_in _ (by omega)]; omega)
      have HI := Lib.hid hlt
      have HNX := Lib.hid (twT_next wide (fin L.length k m) m wn (decide (wn = 1)) (by omega) rfl)
      clear hlt hwn
      go_wp2
      refine L2.out wn (decide (wn = 1)) _ _ w2 _ ⟨rfl, rfl, rfl, rfl, rfl, rfl, rfl, rfl⟩ rfl HK.out HT.out (Nat.le_of_lt_succ HI.out) rfl ?_
      rintro ⟨tm, df⟩ w3 vo' ⟨rfl, hs, e0, e1, e2, e3, e10, e9⟩ hT hk
      rw [HNX.out] at hT
      obtain ⟨uo', uc', rfl⟩ := hT.shape
      simp only at hs e0 e1 e2 e3 e10 e9
      obtain ⟨f, hf, hg⟩ := fr_open hs
      have g0 := hg _ _ e0
      have g1 := hg _ _ e1
      have g2 := hg _ _ e2
      have g3 := hg _ _ e3
      have g10 := hg _ _ e10
      have g9 := hg _ _ e9
      simp only [List.range, List.range.loop, List.map] at hf
      rw [g0, g1, g2, g3, g10, g9] at hf
      clear g0 g1 g2 g3 g10 g9 hg hs e0 e1 e2 e3 e10 e9
      subst hf
      have HT' := Lib.hid hT
      have HK' := Lib.hid hk
      clear hT hk HT HNX hdd
      go_wp2
      rw [HW.out]
      exact ⟨⟨uo', uc', wn + 1, ⟨rfl, rfl, rfl, rfl, rfl, rfl, rfl, rfl⟩, HI.out, HT'.out, HK'.out⟩, nearer HI.out rfl⟩
    · have hie : wn = 2 := by omega
      subst hie
      have hdd : decide (((2 : Nat) : Int) < 2) = false := by decide
      clear hlt hwn
      go_wp2
      go_ret
      exact ⟨_, rfl, HT.out, HK.out⟩

end Go.Proofs.Ytliggpidkdiinaa
