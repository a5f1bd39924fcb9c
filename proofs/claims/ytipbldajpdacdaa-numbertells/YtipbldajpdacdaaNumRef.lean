/- Contracts of the reference of layer 3: rooms, leads, sizes, bytes. -/
import Derived.Test.YtipbldajpdacdaaLNum
namespace Go.Proofs.Ytipbldajpdacdaa
open Go.RowKit Bx Nm

/-- A table's room and lead. -/
def trm : Nat → Nat
  | 0 => 0
  | s => rm s

theorem alloc_nix (w : World) (o : Obj) : Kept Nix w (w.alloc o) := (Kept.refl Nix w).alloc o

set_option maxHeartbeats 400000 in
theorem refRoom_any (s : Nat) (w : World) (h : s ≤ 7) : Calls Try.prog 23 #[.int .i64 (s : Int)] w fun e w' => e = .returned (.int .i64 ((trm s : Nat) : Int)) ∧ Kept Nix w w' := by
  have hs : s = 0 ∨ s = 1 ∨ s = 2 ∨ s = 3 ∨ s = 4 ∨ s = 5 ∨ s = 6 ∨ s = 7 := by omega
  rcases hs with rfl | rfl | rfl | rfl | rfl | rfl | rfl | rfl
  all_goals
    go_enter Try.func23, Try.ntmps23
    go_wp2
    go_ret
    exact ⟨rfl, alloc_nix _ _⟩

set_option maxHeartbeats 400000 in
theorem refLead_any (s : Nat) (w : World) (h : s ≤ 7) : Calls Try.prog 20 #[.int .i64 (s : Int)] w fun e w' => e = .returned (.int .i64 ((lead s : Nat) : Int)) ∧ Kept Nix w w' := by
  have hs : s = 0 ∨ s = 1 ∨ s = 2 ∨ s = 3 ∨ s = 4 ∨ s = 5 ∨ s = 6 ∨ s = 7 := by omega
  rcases hs with rfl | rfl | rfl | rfl | rfl | rfl | rfl | rfl
  all_goals
    go_enter Try.func20, Try.ntmps20
    go_wp2
    go_ret
    exact ⟨rfl, alloc_nix _ _⟩

theorem fits (n s : Nat) (h : n < 68719476736) (h1 : 1 ≤ s) (h2 : s ≤ szn n) : (n < 2 ^ rm s) ↔ s = szn n := by
  have hs : s = 1 ∨ s = 2 ∨ s = 3 ∨ s = 4 ∨ s = 5 ∨ s = 6 ∨ s = 7 := by have := szn_le n; omega
  have := szn_split n h
  rcases hs with rfl | rfl | rfl | rfl | rfl | rfl | rfl <;> simp [rm] <;> omega

def RSizeInv (n : Nat) (w : World) (a : Act) (w' : World) : Prop :=
  a.defers = [] ∧ a.tmps.size = 28 ∧ a.tmps[0]? = some (.int .i64 (n : Int)) ∧ ∃ s : Nat, 1 ≤ s ∧ s ≤ szn n ∧ a.tmps[3]? = some (.int .i64 (s : Int)) ∧ Kept Nix w w'

def RSizeIn (n s : Nat) (w : World) (a : Act) (w' : World) : Prop :=
  a.defers = [] ∧ a.tmps.size = 28 ∧ a.tmps[0]? = some (.int .i64 (n : Int)) ∧ a.tmps[3]? = some (.int .i64 (s : Int)) ∧ ∃ i L : Nat, i ≤ rm s ∧ L = 2 ^ i ∧ a.tmps[4]? = some (.int .i64 (L : Int)) ∧ a.tmps[5]? = some (.int .i64 (i : Int)) ∧ Kept Nix w w'

set_option maxHeartbeats 1000000 in
theorem refSize_any (n : Int) (w : World) : Calls Try.prog 16 #[.int .i64 n] w fun e w' => e = .returned (.int .i64 ((szn n : Nat) : Int)) ∧ Kept Nix w w' := by
  have hz := szn_zero n
  by_cases hn : n < 0 ∨ 68719476735 < n
  · rw [show szn n = 0 from hz.2 hn]
    clear hz
    go_enter Try.func16, Try.ntmps16
    go_wp2
    all_goals
      go_ret
      exact ⟨rfl, Kept.refl _ _⟩
  · obtain ⟨n, rfl⟩ := Int.eq_ofNat_of_zero_le (show 0 ≤ n by omega)
    have hlt : n < 68719476736 := by omega
    have hp := szn_pos n hlt
    have hle := szn_le n
    have HLT := Lib.hid hlt
    have HP := Lib.hid hp
    have HLE := Lib.hid hle
    have hi1 : ¬ (n : Int) < 0 := by omega
    have hi2 : ¬ 68719476735 < (n : Int) := by omega
    clear hz hlt hp hle hn
    go_enter Try.func16, Try.ntmps16
    go_wp2
    refine wp_loop (RSizeInv n w) (fun a _ => 7 - (intOf (a.tmps.getD 3 undef)).toNat) ?_ ?_
    · exact ⟨rfl, rfl, rfl, 1, by omega, HP.out, rfl, Kept.refl _ _⟩
    · rintro ⟨tm, df⟩ w1 ⟨rfl, hs, h0, s, hs1, hs2, h3, k1⟩
      simp only at hs h0 h3
      obtain ⟨f, hf, hg⟩ := fr_open hs
      have e0 := hg _ _ h0
      have e3 := hg _ _ h3
      simp only [List.range, List.range.loop, List.map] at hf
      rw [e0, e3] at hf
      clear e0 e3 hg hs h0 h3
      subst hf
      by_cases h7 : (s : Int) < 7
      · have hfits := fits n s HLT.out hs1 hs2
        have HF := Lib.hid hfits
        have hrm : trm s = rm s := by cases s with
          | zero => omega
          | succ s => rfl
        have hrl : rm s ≤ 31 := by unfold rm; split <;> omega
        have HRL := Lib.hid hrl
        have HS2 := Lib.hid hs2
        have HS1 := Lib.hid hs1
        have HRO := Lib.hid (fun w => refRoom_any s w (by omega))
        rw [hrm] at HRO
        clear hrm hrl hs2 hs1 hfits
        go_wp2_with fail
        refine wp_loop (RSizeIn n s w) (fun a _ => rm s - (intOf (a.tmps.getD 5 undef)).toNat) ?_ ?_
        · exact ⟨rfl, rfl, rfl, rfl, 0, 1, Nat.zero_le _, rfl, rfl, rfl, k1⟩
        · clear k1
          rintro ⟨tm, df⟩ w2 ⟨rfl, hs, h0, h3, i, L, hi, hL, h4, h5, k2⟩
          simp only at hs h0 h3 h4 h5
          obtain ⟨f, hf, hg⟩ := fr_open hs
          have e0 := hg _ _ h0
          have e3 := hg _ _ h3
          have e4 := hg _ _ h4
          have e5 := hg _ _ h5
          simp only [List.range, List.range.loop, List.map] at hf
          rw [e0, e3, e4, e5] at hf
          clear e0 e3 e4 e5 hg hs h0 h3 h4 h5
          subst hf
          have hL2 : (L : Int) ≤ 2147483648 := by
            have := Nat.pow_le_pow_right (n := 2) (by decide) (Nat.le_trans hi HRL.out)
            rw [← hL] at this
            simp at this
            omega
          have hi31 : (i : Int) ≤ 31 := by have := HRL.out; omega
          have HL := Lib.hid hL
          clear hL
          by_cases hlt : i < rm s
          · have hd : decide (i < rm s) = true := by simpa using hlt
            have HI := Lib.hid hlt
            clear hlt
            go_wp2_with fail
            refine (HRO.out _).mono ?_
            rintro e w3 ⟨rfl, k3⟩
            go_wp2_with fail
            refine ⟨⟨rfl, rfl, rfl, rfl, i + 1, 2 * L, HI.out, ?_, rfl, rfl, nix_trans k2 k3⟩, ?_⟩
            · rw [HL.out, Nat.pow_succ, Nat.mul_comm]
            · have := HI.out
              simp [intOf]; omega
          · have hie : i = rm s := by omega
            have hd : decide (i < rm s) = false := by simpa using hlt
            have hLs : L = 2 ^ rm s := by rw [HL.out, hie]
            clear hlt hie
            by_cases hsz : s = szn n
            · have hnL : decide (n < L) = true := by rw [hLs]; simpa using HF.out.2 hsz
              have HSZ := Lib.hid hsz
              clear hLs hsz
              go_wp2_with fail
              refine (HRO.out _).mono ?_
              rintro e w3 ⟨rfl, k3⟩
              go_wp2_with fail
              go_ret
              exact ⟨ret_int (by rw [HSZ.out]), nix_trans k2 k3⟩
            · have hnL : decide (n < L) = false := by rw [hLs, decide_eq_false_iff_not]; exact fun h => hsz (HF.out.1 h)
              have HSZ := Lib.hid hsz
              clear hLs hsz
              go_wp2_with fail
              refine (HRO.out _).mono ?_
              rintro e w3 ⟨rfl, k3⟩
              go_wp2_with fail
              refine ⟨⟨rfl, rfl, rfl, s + 1, by omega, ?_, rfl, nix_trans k2 k3⟩, ?_⟩
              · have := HSZ.out
                have := HS2.out
                omega
              · simp [intOf]; omega
      · have hs7 : s = 7 := by have := HLE.out; omega
        have HZ : Hid (szn n = 7) := Lib.hid (by have := HLE.out; omega)
        subst hs7
        clear hs2 h7
        go_wp2_with fail
        go_ret
        exact ⟨ret_int (by rw [HZ.out]; rfl), k1⟩

end Go.Proofs.Ytipbldajpdacdaa
