/- The reference of layer 11: pieces of Quantise: how far the furthest is; the greatest shift. -/
import Derived.Test.YtgcokligilfkgaaLoopAt
import Derived.Test.YtgcokligilfkgaaLpcVal
import Derived.Test.YtgcokligilfkgaaQuMath
import Derived.Test.YtgcokligilfkgaaRPow
import Derived.Test.YtgcokligilfkgaaDownBy
namespace Go.Proofs.Ytgcokligilfkgaa
open Go.RowKit Bx

noncomputable def rquL1 : Code := (loopAt 5 (Try.f11.body.getD .skip)).getD .skip
noncomputable def rquL2 : Code := (loopAt 14 (Try.f11.body.getD .skip)).getD .skip

/-- What the pieces leave as it is. -/
def QRS (p : Int) (g : Nat) (va : Value) (a : Act) : Prop :=
  a.defers = [] ∧ a.tmps.size = 127 ∧ a.tmps[0]? = some va ∧ a.tmps[1]? = some (.int .i64 p) ∧ a.tmps[4]? = some (.pointer (some ⟨g, 0, none⟩))

def Q1Inv (p : Int) (g l : Nat) (va : Value) (zs : List Int) (w : World) (a : Act) (w' : World) : Prop :=
  QRS p g va a ∧ ∃ i : Nat, i ≤ l ∧ a.tmps[7]? = some (.int .i64 (i : Int)) ∧ a.tmps[6]? = some (.int .i64 ((far (zs.take i) : Nat) : Int)) ∧ w' = w

theorem far_step (x : Int) (F : Nat) : (((F : Int) < x ∧ decide ((F : Int) < x) = true ∧ decide (x < -x) = false ∧ ((max F x.natAbs : Nat) : Int) = x) ∨ (decide ((F : Int) < x) = false ∧ decide ((F : Int) < -x) = true ∧ ((max F x.natAbs : Nat) : Int) = -x)) ∨ (decide ((F : Int) < x) = false ∧ decide ((F : Int) < -x) = false ∧ ((max F x.natAbs : Nat) : Int) = (F : Int)) := by
  simp only [decide_eq_true_eq, decide_eq_false_iff_not]
  omega

set_option maxRecDepth 10000 in
set_option maxHeartbeats 2000000 in
theorem rqu_l1 (p : Int) (g : Nat) (va : Value) (zs : List Int) (a : Act) (w : World) (Q : Exit → Act → World → Prop) (hrs : QRS p g va a) (h6 : a.tmps[6]? = some (.int .i64 0)) (h7 : a.tmps[7]? = some (.int .i64 0))
    (hz : Sl w va (ivs zs)) (hb : Bd 1099511627776 zs) (hl : zs.length ≤ 32)
    (hQ : ∀ a', QRS p g va a' → a'.tmps[6]? = some (.int .i64 ((far zs : Nat) : Int)) → Q (.exit 0) a' w) : Code.wp Try.prog rquL1 Q a w := by
  obtain ⟨ao, ca, rfl, hac, -⟩ := hz.ints
  have SX := Lib.hid hz
  have HB := Lib.hid hb
  have HL := Lib.hid hl
  have HQ := Lib.hid hQ
  clear hz hb hl hQ hac
  generalize hn : zs.length = n at *
  have HN := Lib.hid hn
  clear hn
  refine wp_loop (Q1Inv p g n (.slice ao n ca) zs w) (fun a _ => n - (intOf (a.tmps.getD 7 undef)).toNat) ?_ ?_
  · exact ⟨hrs, 0, Nat.zero_le _, h7, h6, rfl⟩
  · clear hrs h6 h7
    rintro ⟨tm, df⟩ w1 ⟨⟨rfl, hs, e0, e1, e4⟩, i, hi, e7, e6, rfl⟩
    simp only at hs e0 e1 e4 e6 e7
    obtain ⟨f, hf, hg⟩ := fr_open hs
    have g0 := hg _ _ e0
    have g1 := hg _ _ e1
    have g4 := hg _ _ e4
    have g6 := hg _ _ e6
    have g7 := hg _ _ e7
    simp only [List.range, List.range.loop, List.map] at hf
    rw [g0, g1, g4, g6, g7] at hf
    clear g0 g1 g4 g6 g7 hg hs e0 e1 e4 e6 e7
    subst hf
    by_cases hlt : i < n
    · obtain ⟨b1, o1, rfl, hc1⟩ := cell_kept SX.out i (by rw [HN.out]; exact hlt)
      have c1 := hc1 _ (Kept.refl _ w1)
      have hi1 : (i : Int) < (n : Int) := by omega
      have hdd : decide (i < n) = true := decide_eq_true hlt
      have hw1 : wrap64 ((i : Int) + 1) = ((i + 1 : Nat) : Int) := by have := HL.out; unfold wrap64; omega
      have HW1 := Lib.hid hw1
      have HI := Lib.hid hlt
      have HT := Lib.hid (show ((far (zs.take (i + 1)) : Nat) : Int) = ((max (far (zs.take i)) (zs.getD i 0).natAbs : Nat) : Int) by rw [far_take zs i (by rw [HN.out]; exact hlt)])
      have hbx := HB.out i (by rw [HN.out]; exact hlt)
      have hng : wrap64 (-(zs.getD i 0)) = -(zs.getD i 0) := w64_in _ (by omega)
      have HNG := Lib.hid hng
      have hst := far_step (zs.getD i 0) (far (zs.take i))
      clear hc1 hlt hi hw1 hbx
      generalize zs.getD i 0 = x at *
      generalize far (zs.take i) = F at *
      rcases hst with (⟨-, d1, d2, d3⟩ | ⟨d1, d2, d3⟩) | ⟨d1, d2, d3⟩
      all_goals rw [d3] at HT
      all_goals clear d3
      all_goals conv => arg 2; whnf
      all_goals go_wp2
      all_goals rw [HW1.out]
      all_goals exact ⟨⟨⟨rfl, rfl, rfl, rfl, rfl⟩, i + 1, HI.out, rfl, by rw [HT.out]; first | rfl | exact congrArg (fun z => some (Value.int IntKind.i64 z)) HNG.out, rfl⟩, nearer HI.out rfl⟩
    · have hie : i = n := by omega
      subst hie
      have hd : decide (i < i) = false := decide_eq_false hlt
      have hz : zs.take i = zs := List.take_of_length_le (Nat.le_of_eq HN.out)
      rw [hz]
      clear hlt hi hz
      conv => arg 2; whnf
      go_wp2
      exact HQ.out _ ⟨rfl, rfl, rfl, rfl, rfl⟩ rfl

def shZ (o : Option Nat) : Int := match o with | some s => (s : Int) | none => -1

def Q2Inv (p h : Int) (g F P : Nat) (va : Value) (w : World) (a : Act) (w' : World) : Prop :=
  QRS p g va a ∧ a.tmps[6]? = some (.int .i64 (F : Int)) ∧ a.tmps[8]? = some (.int .i64 h) ∧ ∃ i : Nat, i ≤ 16 ∧ a.tmps[10]? = some (.int .i64 (i : Int)) ∧ a.tmps[9]? = some (.int .i64 (shZ (shAt F P i))) ∧ w' = w

theorem sh_nums (F P i : Nat) (hF : F ≤ 1099511627776) (h2 : 2 ≤ P) (h15 : P ≤ 15) (hi : i ≤ 15) : ∃ A B : Int, (F : Int) * 2 ^ i = A ∧ wrap64 A = A ∧ (2 : Int) ^ (P - 1) * 1048576 = B ∧ wrap64 B = B ∧ ((A < B ∧ shAt F P (i + 1) = some i) ∨ (¬ A < B ∧ shAt F P (i + 1) = shAt F P i)) := by
  have hp1 := pw2 0 i (by omega)
  have hp2 := pw2 i 15 hi
  have hp3 := pw2 0 (P - 1) (by omega)
  have hp4 := pw2 (P - 1) 14 (by omega)
  have e1 : ((F * 2 ^ i : Nat) : Int) = (F : Int) * 2 ^ i := by simp
  have e2 : ((2 ^ (P + 19) : Nat) : Int) = (2 : Int) ^ (P - 1) * 1048576 := by
    rw [show P + 19 = (P - 1) + 20 by omega, Nat.pow_add]
    simp
  have hA0 : 0 ≤ (F : Int) * 2 ^ i := by rw [← e1]; omega
  have hA1 : (F : Int) * 2 ^ i ≤ 1099511627776 * 32768 := Int.mul_le_mul (by omega) hp2 (by omega) (by omega)
  refine ⟨_, _, rfl, w64_in _ (by omega), rfl, w64_in _ (by omega), ?_⟩
  by_cases hc : F * 2 ^ i < 2 ^ (P + 19)
  · exact .inl ⟨by omega, if_pos hc⟩
  · exact .inr ⟨by omega, if_neg hc⟩

set_option maxRecDepth 10000 in
set_option maxHeartbeats 2000000 in
theorem rqu_l2 (p : Int) (g F P : Nat) (va : Value) (a : Act) (w : World) (Q : Exit → Act → World → Prop) (hrs : QRS p g va a) (h6 : a.tmps[6]? = some (.int .i64 (F : Int))) (h8 : a.tmps[8]? = some (.int .i64 (2 ^ (P - 1)))) (h9 : a.tmps[9]? = some (.int .i64 (-1))) (h10 : a.tmps[10]? = some (.int .i64 0))
    (hF : F ≤ 1099511627776) (h2 : 2 ≤ P) (h15 : P ≤ 15)
    (hQ : ∀ a', QRS p g va a' → a'.tmps[6]? = some (.int .i64 (F : Int)) → a'.tmps[8]? = some (.int .i64 (2 ^ (P - 1))) → a'.tmps[9]? = some (.int .i64 (shZ (shOf F P))) → Q (.exit 2) a' w) : Code.wp Try.prog rquL2 Q a w := by
  have HN := Lib.hid (fun i hi => sh_nums F P i hF h2 h15 hi)
  have HQ := Lib.hid hQ
  clear hQ hF h2 h15
  generalize (2 : Int) ^ (P - 1) = h at *
  refine wp_loop (Q2Inv p h g F P va w) (fun a _ => 16 - (intOf (a.tmps.getD 10 undef)).toNat) ?_ ?_
  · exact ⟨hrs, h6, h8, 0, Nat.zero_le _, h10, h9, rfl⟩
  · clear hrs h6 h8 h9 h10
    rintro ⟨tm, df⟩ w1 ⟨⟨rfl, hs, e0, e1, e4⟩, e6, e8, i, hi, e10, e9, rfl⟩
    simp only at hs e0 e1 e4 e6 e8 e9 e10
    obtain ⟨f, hf, hg⟩ := fr_open hs
    have g0 := hg _ _ e0
    have g1 := hg _ _ e1
    have g4 := hg _ _ e4
    have g6 := hg _ _ e6
    have g8 := hg _ _ e8
    have g9 := hg _ _ e9
    have g10 := hg _ _ e10
    simp only [List.range, List.range.loop, List.map] at hf
    rw [g0, g1, g4, g6, g8, g9, g10] at hf
    clear g0 g1 g4 g6 g8 g9 g10 hg hs e0 e1 e4 e6 e8 e9 e10
    subst hf
    by_cases hlt : i ≤ 15
    · obtain ⟨A, B, a1, a2, b1, b2, hab⟩ := HN.out i hlt
      have PW := Lib.hid (fun w => rpower_any i (by omega) w)
      have hi1 : decide ((i : Int) ≤ 15) = true := decide_eq_true (by omega)
      have hdd : decide (i ≤ 15) = true := decide_eq_true hlt
      have hw1 : wrap64 ((i : Int) + 1) = ((i + 1 : Nat) : Int) := by unfold wrap64; omega
      have HW1 := Lib.hid hw1
      have HI := Lib.hid (show i < 16 by omega)
      clear hlt hi hw1
      rcases hab with ⟨c, hc⟩ | ⟨c, hc⟩
      · have d1 : decide (A < B) = true := decide_eq_true c
        have HC := Lib.hid hc
        clear c hc
        generalize (2 : Int) ^ i = pw at *
        generalize shAt F P i = o at *
        conv => arg 2; whnf
        go_wp2_with (go_at_call 17; refine (PW.out _).mono ?_; rintro e w2 ⟨rfl, rfl⟩)
        rw [HW1.out]
        exact ⟨⟨⟨rfl, rfl, rfl, rfl, rfl⟩, rfl, rfl, i + 1, HI.out, rfl, by rw [HC.out]; rfl, rfl⟩, nearer HI.out rfl⟩
      · have d1 : decide (A < B) = false := decide_eq_false c
        have HC := Lib.hid hc
        clear c hc
        generalize (2 : Int) ^ i = pw at *
        generalize shAt F P i = o at *
        conv => arg 2; whnf
        go_wp2_with (go_at_call 17; refine (PW.out _).mono ?_; rintro e w2 ⟨rfl, rfl⟩)
        rw [HW1.out]
        exact ⟨⟨⟨rfl, rfl, rfl, rfl, rfl⟩, rfl, rfl, i + 1, HI.out, rfl, by rw [HC.out]; rfl, rfl⟩, nearer HI.out rfl⟩
    · have hie : i = 16 := by omega
      subst hie
      clear hlt hi
      conv => arg 2; whnf
      go_wp2
      exact HQ.out _ ⟨rfl, rfl, rfl, rfl, rfl⟩ rfl rfl rfl

end Go.Proofs.Ytgcokligilfkgaa
