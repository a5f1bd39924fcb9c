/- The reference of layer 10: pieces of Solve: the sum. -/
import Derived.Test.YtdifaaimjiflgaaSolRef
import Derived.Test.YtdifaaimjiflgaaLagROf
namespace Go.Proofs.Ytdifaaimjiflgaa
open Go.RowKit Bx

/-- The loop whose first region is the number n. -/
def firstIs (n : Nat) : Code → Bool
  | .region id _ _ => id == n
  | .seq a _ => firstIs n a
  | _ => false
def loopAt (n : Nat) : Code → Option Code
  | .seq a b => match loopAt n a with
    | some c => some c
    | none => loopAt n b
  | .block _ c => loopAt n c
  | .loop c => if firstIs n c then some (.loop c) else loopAt n c
  | .scope c => loopAt n c
  | .cond _ a b => match loopAt n a with
    | some c => some c
    | none => loopAt n b
  | _ => none

noncomputable def rsolL4 : Code := (loopAt 19 (Try.f13.body.getD .skip)).getD .skip

/-- What the rounds' pieces leave as it is. -/
def RS (order e : Int) (m : Nat) (vx vo : Value) (a : Act) : Prop :=
  a.defers = [] ∧ a.tmps.size = 167 ∧ a.tmps[1]? = some (.int .i64 order) ∧ a.tmps[6]? = some vx ∧ a.tmps[8]? = some (.int .i64 e) ∧ a.tmps[10]? = some vo ∧ a.tmps[11]? = some (.int .i64 (m : Int))

def R4Inv (order e : Int) (m n : Nat) (vx va vo : Value) (x A : List Int) (w : World) (a : Act) (w' : World) : Prop :=
  RS order e m vx vo a ∧ a.tmps[9]? = some va ∧ ∃ i j : Nat, j = i + 1 ∧ i ≤ n ∧ a.tmps[13]? = some (.int .i64 (j : Int)) ∧ a.tmps[12]? = some (.int .i64 (usum x A m i)) ∧ ∃ nn, w' = w.drewN nn

theorem r4_nums (m n i : Nat) (hm : m = n + 1) (hn : n < 32) (hi : i < n) : ∃ j k : Nat, j = i + 1 ∧ k = m - 1 - i ∧ (j : Int) < (m : Int) ∧ j < m ∧ decide ((j : Int) < (m : Int)) = true ∧ decide (j < m) = true ∧ wrap64 ((m : Int) - (j : Int)) = (k : Int) ∧ IntKind.i64.wrap ((m : Int) - (j : Int)) = (k : Int) ∧ wrap64 ((j : Int) + 1) = ((j + 1 : Nat) : Int) ∧ k ≤ n :=
  ⟨i + 1, m - 1 - i, rfl, rfl, by omega, by omega, decide_eq_true (by omega), decide_eq_true (by omega), by unfold wrap64; omega, by rw [IntKind.wrap_i64]; omega, by unfold wrap64; omega, by omega⟩

set_option maxRecDepth 10000 in
set_option maxHeartbeats 4000000 in
theorem rsol_l4 (order e : Int) (m n : Nat) (vx va vo : Value) (x A : List Int) (a : Act) (w : World) (Q : Exit → Act → World → Prop) (hrs : RS order e m vx vo a) (h9 : a.tmps[9]? = some va) (h13 : a.tmps[13]? = some (.int .i64 1)) (h12 : a.tmps[12]? = some (.int .i64 (usum x A m 0)))
    (hx : Sl w vx (ivs x)) (ha : Sl w va (ivs (0 :: A))) (hs : Sol x A e) (hn : A.length = n) (hm : m = n + 1) (hn32 : n < 32) (hxl : m < x.length)
    (hQ : ∀ a' nn, RS order e m vx vo a' → a'.tmps[9]? = some va → a'.tmps[12]? = some (.int .i64 (usum x A m n)) → Q (.exit 6) a' (w.drewN nn)) : Code.wp Try.prog rsolL4 Q a w := by
  obtain ⟨xo, xc, rfl, hxc, -⟩ := hx.ints
  obtain ⟨ao, ac, rfl, hac, -⟩ := ha.ints
  have SX := Lib.hid hx
  have SA := Lib.hid ha
  have HS := Lib.hid hs
  have HN := Lib.hid hn
  have HM := Lib.hid hm
  have HN32 := Lib.hid hn32
  have HXL := Lib.hid hxl
  have HQ := Lib.hid hQ
  clear hx ha hs hn hn32 hxl hQ hxc hac
  generalize hxx : x.length = lx at *
  generalize haa : (0 :: A).length = la at *
  have HLX := Lib.hid hxx
  have HLA := Lib.hid haa
  clear hxx haa
  refine wp_loop (R4Inv order e m n (.slice xo lx xc) (.slice ao la ac) vo x A w) (fun a _ => m - (intOf (a.tmps.getD 13 undef)).toNat) ?_ ?_
  · exact ⟨hrs, h9, 0, 1, rfl, Nat.zero_le _, h13, h12, 0, rfl⟩
  · clear hrs h9 h13 h12 hm
    rintro ⟨tm, df⟩ w1 ⟨⟨rfl, hs, e1, e6, e8, e10, e11⟩, e9, i, j0, hj0, hi, e13, e12, n1, rfl⟩
    simp only at hs e1 e6 e8 e10 e11 e9 e13 e12
    obtain ⟨f, hf, hg⟩ := fr_open hs
    have g1 := hg _ _ e1
    have g6 := hg _ _ e6
    have g8 := hg _ _ e8
    have g10 := hg _ _ e10
    have g11 := hg _ _ e11
    have g9 := hg _ _ e9
    have g13 := hg _ _ e13
    have g12 := hg _ _ e12
    simp only [List.range, List.range.loop, List.map] at hf
    rw [g1, g6, g8, g10, g11, g9, g13, g12] at hf
    clear g1 g6 g8 g10 g11 g9 g13 g12 hg hs e1 e6 e8 e10 e11 e9 e13 e12
    subst hf
    by_cases hlt : i < n
    · obtain ⟨j, k, hj, hk, t1, t2, t3, t4, t5, t6, t7, t8⟩ := r4_nums m n i HM.out HN32.out hlt
      have hjj : j0 = j := by omega
      subst hjj
      obtain ⟨b1, o1, rfl, hc1⟩ := cell_kept SA.out j0 (by rw [HLA.out, ← HLA.out, List.length_cons, HN.out]; have := HM.out; omega)
      obtain ⟨b2, o2, rfl, hc2⟩ := cell_kept SX.out k (by rw [HLX.out]; have := HXL.out; have := HM.out; omega)
      have c1 := hc1 _ ((Kept.refl _ w).drewN n1)
      have c2 := hc2 _ ((Kept.refl _ w).drewN n1)
      rw [hj, List.getD_cons_succ, ← hj] at c1
      obtain ⟨-, m1, m2⟩ := usum_nums HS.out m i (by have := HN32.out; omega)
      rw [← hk] at m1 m2
      have m3 : IntKind.i64.wrap (A.getD i 0 * x.getD k 0) = A.getD i 0 * x.getD k 0 := by rw [IntKind.wrap_i64]; unfold wrap64 at m1; omega
      have m4 : IntKind.i64.wrap (usum x A m i - A.getD i 0 * x.getD k 0) = usum x A m (i + 1) := by rw [IntKind.wrap_i64]; unfold wrap64 at m2; omega
      have i1 : (j0 : Int) < (la : Int) := by have := HLA.out; rw [List.length_cons, HN.out] at this; have := HM.out; omega
      have i2 : (k : Int) < (lx : Int) := by have := HXL.out; have := HM.out; omega
      have T7 := Lib.hid t7
      have HI := Lib.hid hlt
      have HJ := Lib.hid hj
      have HT2 := Lib.hid t2
      clear hlt hi hj hk t7 t8 m1 m2 hc1 hc2 hj0
      generalize A.getD i 0 = ai at *
      generalize x.getD k 0 = xk at *
      generalize hU : usum x A m (i + 1) = U at *
      have HU := Lib.hid hU
      clear hU
      generalize usum x A m i = u at *
      generalize hwx : w.drewN n1 = wx at *
      have HWX := Lib.hid hwx
      clear hwx
      conv => arg 2; whnf
      go_wp2
      go_quiet (fail)
      go_wp2
      rw [T7.out]
      exact ⟨⟨⟨rfl, rfl, rfl, rfl, rfl, rfl, rfl⟩, rfl, i + 1, j0 + 1, by rw [HJ.out], HI.out, rfl, by rw [HU.out]; rfl, _, by rw [← HWX.out]; exact World.drewN_drewN _ _ _⟩, nearer HT2.out rfl⟩
    · have hie : i = n := by omega
      have hje : j0 = m := by have := HM.out; omega
      subst hie
      subst hje
      have hd : decide (j0 < j0) = false := decide_eq_false (by omega)
      clear hlt hi hj0
      conv => arg 2; whnf
      go_wp2
      refine HQ.out _ _ ?_ ?_ ?_
      · exact ⟨rfl, rfl, rfl, rfl, rfl, rfl, rfl⟩
      · rfl
      · rfl

end Go.Proofs.Ytdifaaimjiflgaa
