/- Package quant in numbers: how far the furthest is, the greatest shift, what is told and carried. No program. -/
import Derived.Test.YtgcokligilfkgaaFixMath
namespace Go.Proofs.Ytgcokligilfkgaa
open Bx

/-- How far from 0 the furthest is. -/
def far (zs : List Int) : Nat := zs.foldl (fun m z => max m z.natAbs) 0

theorem far_snoc (zs : List Int) (z : Int) : far (zs ++ [z]) = max (far zs) z.natAbs := by simp [far, List.foldl_append]

theorem far_take (zs : List Int) (i : Nat) (h : i < zs.length) : far (zs.take (i + 1)) = max (far (zs.take i)) (zs.getD i 0).natAbs := by
  rw [List.take_succ_eq_append_getElem h, far_snoc]
  simp [List.getD, h]

theorem far_mono (zs : List Int) (i : Nat) : ∀ k, i + k ≤ zs.length → far (zs.take i) ≤ far (zs.take (i + k))
  | 0, _ => Nat.le_refl _
  | k + 1, h => by
    have h1 := far_mono zs i k (by omega)
    rw [← Nat.add_assoc, far_take zs (i + k) (by omega)]
    omega

theorem far_get (zs : List Int) (i : Nat) (h : i < zs.length) : (zs.getD i 0).natAbs ≤ far zs := by
  have h1 := far_mono zs (i + 1) (zs.length - (i + 1)) (by omega)
  rw [show i + 1 + (zs.length - (i + 1)) = zs.length by omega, List.take_length, far_take zs i h] at h1
  omega

theorem far_le (zs : List Int) (M : Nat) (h : ∀ i, i < zs.length → (zs.getD i 0).natAbs ≤ M) : far zs ≤ M := by
  have key : ∀ k, k ≤ zs.length → far (zs.take k) ≤ M := by
    intro k
    induction k with
    | zero => intro _; simp [far]
    | succ k ih =>
      intro hk
      have h1 := ih (by omega)
      have h2 := h k (by omega)
      rw [far_take zs k (by omega)]
      omega
  have := key zs.length (Nat.le_refl _)
  rwa [List.take_length] at this

/-- The greatest shift below n. -/
def shAt (F p : Nat) : Nat → Option Nat
  | 0 => none
  | n + 1 => if F * 2 ^ n < 2 ^ (p + 19) then some n else shAt F p n

def shOf (F p : Nat) : Option Nat := shAt F p 16

theorem shAt_some {F p n s : Nat} (h : shAt F p n = some s) : s < n ∧ F * 2 ^ s < 2 ^ (p + 19) ∧ ∀ t, s < t → t < n → ¬ F * 2 ^ t < 2 ^ (p + 19) := by
  induction n with
  | zero => simp [shAt] at h
  | succ n ih =>
    unfold shAt at h
    by_cases hc : F * 2 ^ n < 2 ^ (p + 19)
    · rw [if_pos hc] at h
      obtain rfl := Option.some.inj h
      exact ⟨by omega, hc, fun t h1 h2 => by omega⟩
    · rw [if_neg hc] at h
      obtain ⟨h1, h2, h3⟩ := ih h
      refine ⟨by omega, h2, fun t h4 h5 => ?_⟩
      by_cases ht : t = n
      · rw [ht]; exact hc
      · exact h3 t h4 (by omega)

theorem shAt_none {F p n : Nat} (h : shAt F p n = none) : ∀ t, t < n → ¬ F * 2 ^ t < 2 ^ (p + 19) := by
  induction n with
  | zero => intro t ht; omega
  | succ n ih =>
    unfold shAt at h
    by_cases hc : F * 2 ^ n < 2 ^ (p + 19)
    · rw [if_pos hc] at h; simp at h
    · rw [if_neg hc] at h
      intro t ht
      by_cases htn : t = n
      · rw [htn]; exact hc
      · exact ih h t (by omega)

/-- What is told of what is to be told. -/
def tell (h want : Int) : Int := min (max ((want + 524288) / 1048576) (-h)) (h - 1)

/-- What is carried ahead of factor i. -/
def car (h m : Int) (zs : List Int) : Nat → Int
  | 0 => 0
  | i + 1 => (car h m zs i + zs.getD i 0 * m) - tell h (car h m zs i + zs.getD i 0 * m) * 1048576

def wnt (h m : Int) (zs : List Int) (i : Nat) : Int := car h m zs i + zs.getD i 0 * m

theorem car_succ (h m : Int) (zs : List Int) (i : Nat) : car h m zs (i + 1) = wnt h m zs i - tell h (wnt h m zs i) * 1048576 := rfl

def toldF (h m : Int) (zs : List Int) (n : Nat) : List Int := (List.range n).map (fun i => tell h (wnt h m zs i))
def tolds (h m : Int) (zs : List Int) : List Int := toldF h m zs zs.length

theorem toldF_length (h m : Int) (zs : List Int) (n : Nat) : (toldF h m zs n).length = n := by simp [toldF]
theorem tolds_length (h m : Int) (zs : List Int) : (tolds h m zs).length = zs.length := toldF_length _ _ _ _
theorem toldF_succ (h m : Int) (zs : List Int) (n : Nat) : toldF h m zs (n + 1) = toldF h m zs n ++ [tell h (wnt h m zs n)] := by simp [toldF, List.range_succ]
theorem tolds_get (h m : Int) (zs : List Int) (i : Nat) (hi : i < zs.length) : (tolds h m zs).getD i 0 = tell h (wnt h m zs i) := by simp [tolds, toldF, List.getD, hi]

theorem tell_in (h want : Int) (hh : 1 ≤ h) : -h ≤ tell h want ∧ tell h want ≤ h - 1 := by unfold tell; omega

/-- Factors that fit. -/
structure Fit (h m : Int) (zs : List Int) : Prop where
  h1 : 2 ≤ h
  h2 : h ≤ 16384
  fits : ∀ i, i < zs.length → -(h * 1048576) < zs.getD i 0 * m ∧ zs.getD i 0 * m < h * 1048576

theorem car_bd {h m : Int} {zs : List Int} (f : Fit h m zs) : ∀ i : Nat, i ≤ zs.length → -524288 ≤ car h m zs i ∧ car h m zs i ≤ 524288 + (i : Int) * 1048576
  | 0, _ => by simp [car]
  | i + 1, hi => by
    obtain ⟨a1, a2⟩ := car_bd f i (by omega)
    obtain ⟨b1, b2⟩ := f.fits i (by omega)
    have := f.h1
    rw [car_succ]
    unfold wnt tell
    generalize zs.getD i 0 * m = z at *
    generalize car h m zs i = c at *
    omega

theorem wnt_bd {h m : Int} {zs : List Int} (f : Fit h m zs) (i : Nat) (hi : i < zs.length) (hl : zs.length ≤ 32) : -17180393472 ≤ wnt h m zs i ∧ wnt h m zs i ≤ 17213947904 ∧ -17179869184 < zs.getD i 0 * m ∧ zs.getD i 0 * m < 17179869184 := by
  obtain ⟨a1, a2⟩ := car_bd f i (by omega)
  obtain ⟨b1, b2⟩ := f.fits i hi
  have := f.h1
  have := f.h2
  unfold wnt
  generalize zs.getD i 0 * m = z at *
  generalize car h m zs i = c at *
  omega

/-- None is held below. -/
theorem tell_low {h m : Int} {zs : List Int} (f : Fit h m zs) (i : Nat) (hi : i < zs.length) : -h ≤ (wnt h m zs i + 524288) / 1048576 := by
  obtain ⟨a1, a2⟩ := car_bd f i (by omega)
  obtain ⟨b1, b2⟩ := f.fits i hi
  unfold wnt
  generalize zs.getD i 0 * m = z at *
  generalize car h m zs i = c at *
  omega

theorem pw2 (a b : Nat) (h : a ≤ b) : (2 : Int) ^ a ≤ 2 ^ b := by
  have := Nat.pow_le_pow_right (show 0 < 2 by decide) h
  exact_mod_cast this

theorem pw_nat (a : Nat) : ((2 ^ a : Nat) : Int) = (2 : Int) ^ a := by simp

/-- What all of it comes to, where what is asked can be: shift, precision, factors, error. -/
def qgood (zs : List Int) (P : Nat) : Int × Int × List Int × Int :=
  match shOf (far zs) P with
  | none => (0, 0, [], 6)
  | some s => if far zs = 0 then (0, 0, [], 6) else ((s : Int), (P : Int), tolds (2 ^ (P - 1)) (2 ^ s) zs, 0)

theorem qgood_none {zs : List Int} {P : Nat} (h : shOf (far zs) P = none) : qgood zs P = (0, 0, [], 6) := by unfold qgood; rw [h]
theorem qgood_zero {zs : List Int} {P : Nat} (h : far zs = 0) : qgood zs P = (0, 0, [], 6) := by
  unfold qgood
  cases shOf (far zs) P with
  | none => rfl
  | some s => exact if_pos h
theorem qgood_some {zs : List Int} {P s : Nat} (h : shOf (far zs) P = some s) (h0 : ¬ far zs = 0) : qgood zs P = ((s : Int), (P : Int), tolds (2 ^ (P - 1)) (2 ^ s) zs, 0) := by
  unfold qgood
  rw [h]
  exact if_neg h0

def qz (zs : List Int) (p : Int) : Int × Int × List Int × Int := if zs.length < 1 ∨ 32 < zs.length ∨ p < 2 ∨ 15 < p then (0, 0, [], 1) else qgood zs p.toNat

theorem qz_bad {zs : List Int} {p : Int} (h : zs.length < 1 ∨ 32 < zs.length ∨ p < 2 ∨ 15 < p) : qz zs p = (0, 0, [], 1) := if_pos h
theorem qz_good {zs : List Int} {P : Nat} (h : ¬ (zs.length < 1 ∨ 32 < zs.length ∨ (P : Int) < 2 ∨ 15 < (P : Int))) : qz zs (P : Int) = qgood zs P := by
  unfold qz
  rw [if_neg h, Int.toNat_natCast]

theorem fit_of {zs : List Int} {p s : Nat} (hp : 2 ≤ p) (hp2 : p ≤ 15) (h : shOf (far zs) p = some s) : s ≤ 15 ∧ Fit (2 ^ (p - 1)) (2 ^ s) zs := by
  obtain ⟨h1, h2, -⟩ := shAt_some h
  refine ⟨by omega, ⟨pw2 1 (p - 1) (by omega), pw2 (p - 1) 14 (by omega), fun i hi => ?_⟩⟩
  have h3 := far_get zs i hi
  have h4 : (zs.getD i 0).natAbs * 2 ^ s < 2 ^ (p + 19) := Nat.lt_of_le_of_lt (Nat.mul_le_mul_right _ h3) h2
  have e : (2 : Nat) ^ (p + 19) = 2 ^ (p - 1) * 1048576 := by rw [show p + 19 = (p - 1) + 20 by omega, Nat.pow_add]
  rw [e] at h4
  have h5 : (zs.getD i 0 * 2 ^ s).natAbs < 2 ^ (p - 1) * 1048576 := by
    rw [Int.natAbs_mul, show ((2 : Int) ^ s).natAbs = 2 ^ s by rw [← pw_nat]; exact Int.natAbs_natCast _]
    exact h4
  rw [← pw_nat (p - 1)]
  omega

/-- Either it is told what is wrong, and nothing beside it, or a predictor. -/
theorem qz_cases (zs : List Int) {P : Nat} (h2 : 2 ≤ P) (h15 : P ≤ 15) : (∃ E : Int, (E = 1 ∨ E = 6) ∧ qz zs (P : Int) = (0, 0, [], E)) ∨
    ∃ s, s ≤ 15 ∧ shOf (far zs) P = some s ∧ ¬ far zs = 0 ∧ 1 ≤ zs.length ∧ zs.length ≤ 32 ∧ Fit (2 ^ (P - 1)) (2 ^ s) zs ∧ qz zs (P : Int) = ((s : Int), (P : Int), tolds (2 ^ (P - 1)) (2 ^ s) zs, 0) := by
  by_cases hb : zs.length < 1 ∨ 32 < zs.length ∨ (P : Int) < 2 ∨ 15 < (P : Int)
  · exact .inl ⟨1, .inl rfl, qz_bad hb⟩
  · by_cases h0 : far zs = 0
    · exact .inl ⟨6, .inr rfl, (qz_good hb).trans (qgood_zero h0)⟩
    · cases hs : shOf (far zs) P with
      | none => exact .inl ⟨6, .inr rfl, (qz_good hb).trans (qgood_none hs)⟩
      | some s => exact .inr ⟨s, (fit_of h2 h15 hs).1, rfl, h0, by omega, by omega, (fit_of h2 h15 hs).2, (qz_good hb).trans (qgood_some hs h0)⟩

end Go.Proofs.Ytgcokligilfkgaa
