/- The reference's Same: two rows of bytes. -/
import Derived.Test.YtpiongdkfebchaaKit
namespace Go.Proofs.Ytpiongdkfebchaa
open Go.RowKit Bx

def SameInv (va vb : Value) (A B : List Nat) (w : World) (a : Act) (w' : World) : Prop :=
  a.defers = [] ∧ a.tmps.size = 26 ∧ a.tmps[0]? = some va ∧ a.tmps[1]? = some vb ∧ ∃ i, i ≤ A.length ∧ a.tmps[5]? = some (.int .i64 ((i : Nat) : Int)) ∧ A.take i = B.take i ∧ ∃ n, w' = w.drewN n

set_option maxHeartbeats 400000 in
theorem same_any (va vb : Value) (A B : List Nat) (w : World) (ha : Sl w va (u8s A)) (hb : Sl w vb (u8s B)) (hl : A.length < 1099511627776) :
    Calls Try.prog 22 #[va, vb] w fun e w' => e = .returned (.bool (decide (A = B))) ∧ ∃ n, w' = w.drewN n := by
  by_cases hlen : A.length = B.length
  · obtain ⟨ao, ca, hva⟩ := ha.shape
    obtain ⟨bo, cb, hvb⟩ := hb.shape
    have hca : 0 < A.length → ∃ b off, ao = some ⟨b, off, none⟩ ∧ ∀ j, j < A.length → w.cell? ⟨b, off + j, none⟩ = some (.int .u8 ((A.getD j 0 : Nat) : Int)) := by
      intro h0
      obtain ⟨b, off, cap, e, _, _, hh⟩ := ha.cells h0
      rw [hva] at e
      simp only [Value.slice.injEq] at e
      exact ⟨b, off, e.1, hh⟩
    have hcb : 0 < B.length → ∃ b off, bo = some ⟨b, off, none⟩ ∧ ∀ j, j < B.length → w.cell? ⟨b, off + j, none⟩ = some (.int .u8 ((B.getD j 0 : Nat) : Int)) := by
      intro h0
      obtain ⟨b, off, cap, e, _, _, hh⟩ := hb.cells h0
      rw [hvb] at e
      simp only [Value.slice.injEq] at e
      exact ⟨b, off, e.1, hh⟩
    have HCA := Lib.hid hca
    have HCB := Lib.hid hcb
    have ht : ((A.length : Int) != (B.length : Int)) = false := by simp [hlen]
    have HLEN := Lib.hid hlen
    subst hva
    subst hvb
    clear ha hb hca hcb hlen
    go_enter Try.func22, Try.ntmps22
    go_wp2
    refine wp_loop (SameInv (.slice ao A.length ca) (.slice bo B.length cb) A B w) (fun a _ => A.length - (intOf (a.tmps.getD 5 undef)).toNat) ?_ ?_
    · exact ⟨rfl, rfl, rfl, rfl, 0, Nat.zero_le _, rfl, by simp, 0, rfl⟩
    · rintro ⟨tm, df⟩ w1 ⟨rfl, hs, h0, h1, i, hi, h5, htk, n1, rfl⟩
      simp only at hs h0 h1 h5
      obtain ⟨f, hf, hg⟩ := fr_open hs
      have e0 := hg _ _ h0
      have e1 := hg _ _ h1
      have e5 := hg _ _ h5
      simp only [List.range, List.range.loop, List.map] at hf
      rw [e0, e1, e5] at hf
      clear e0 e1 e5 hg hs h0 h1 h5
      subst hf
      have HTK := Lib.hid htk
      clear htk
      by_cases hlt : i < A.length
      · obtain ⟨b1, o1, rfl, hc1⟩ := HCA.out (by omega)
        obtain ⟨b2, o2, rfl, hc2⟩ := HCB.out (by have := HLEN.out; omega)
        have hd1 := hc1 i hlt
        have hd2 := hc2 i (by have := HLEN.out; omega)
        clear hc1 hc2
        have hi1 : (i : Int) < (A.length : Int) := by omega
        have hi2 : (i : Int) < (B.length : Int) := by have := HLEN.out; omega
        generalize hx : A.getD i 0 = x at *
        generalize hy : B.getD i 0 = y at *
        have HX := Lib.hid hx
        have HY := Lib.hid hy
        clear hx hy
        by_cases hxy : x = y
        · have hxb : ((x : Int) != (y : Int)) = false := by simp [hxy]
          have HXY := Lib.hid hxy
          clear hxy
          go_wp2
          go_quiet (fail)
          go_wp2
          refine ⟨⟨rfl, rfl, rfl, rfl, i + 1, hlt, rfl, ?_, _, rfl⟩, ?_⟩
          · exact take_step HTK.out hlt (by have := HLEN.out; omega) (by rw [HX.out, HY.out, HXY.out])
          · simp [intOf]; omega
        · have hxb : ((x : Int) != (y : Int)) = true := by simp; omega
          have HNE : ¬ A = B := fun e => hxy (by rw [← HX.out, ← HY.out, e])
          have e1 : decide (A = B) = false := by simp [HNE]
          clear hxy HNE
          go_wp2
          go_quiet (fail)
          go_wp2
          go_ret
          exact ⟨by rw [e1]; rfl, _, World.drewN_drewN _ _ _⟩
      · have e1 : A = B := by
          have h := HTK.out
          have := HLEN.out
          rwa [List.take_of_length_le (by omega), List.take_of_length_le (by omega)] at h
        have e2 : decide (A = B) = true := by simp [e1]
        clear e1
        go_wp2
        go_ret
        exact ⟨by rw [e2]; rfl, _, rfl⟩
  · have hne : ¬ A = B := fun e => hlen (by rw [e])
    have e1 : decide (A = B) = false := by simp [hne]
    rw [e1]
    obtain ⟨ao, ca, rfl⟩ := ha.shape
    obtain ⟨bo, cb, rfl⟩ := hb.shape
    have ht : ((A.length : Int) != (B.length : Int)) = true := by simp; omega
    clear ha hb e1 hne
    go_enter Try.func22, Try.ntmps22
    go_wp2
    go_ret
    exact ⟨rfl, 0, rfl⟩

end Go.Proofs.Ytpiongdkfebchaa
