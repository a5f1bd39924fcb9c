/- Package pcm: the iterator over all places. -/
import Derived.Test.YtpiongdkfebchaaPcmLeaf
import Derived.RangeFuncNested
import Derived.RangeFuncBound
import Derived.RangeFuncCalls
import Derived.RangeFuncLeaves
import Derived.RangeFuncBox
import Derived.Shelf.Abstract
import Derived.Shelf.RegionOpen
import Derived.OwnWalkIn
import Derived.TacticsInMore
import Derived.LoopNIn
import Derived.LoopIn
namespace Go.Proofs.Ytpiongdkfebchaa
open Go.RowKit Go.Shelf Bx
attribute [local go_sem] Oper.semAt_some

/-- The first k of all numbers below N. -/
def upto (N k : Nat) : List (Fin N) := (List.range k).filterMap (fun j => if h : j < N then some ⟨j, h⟩ else none)

theorem upto_zero (N : Nat) : upto N 0 = [] := rfl
theorem upto_succ (N k : Nat) (h : k < N) : upto N (k + 1) = upto N k ++ [⟨k, h⟩] := by simp [upto, List.range_succ, h]
theorem upto_length (N k : Nat) (h : k ≤ N) : (upto N k).length = k := by
  induction k with
  | zero => rfl
  | succ k ih => rw [upto_succ N k h, List.length_append, ih (by omega)]; rfl
theorem upto_map {α : Type} (N k : Nat) (h : k ≤ N) (f : Nat → α) : (upto N k).map (fun x => f x.val) = (List.range k).map f := by
  induction k with
  | zero => rfl
  | succ k ih => rw [upto_succ N k h, List.map_append, ih (by omega), List.range_succ, List.map_append]; rfl
theorem upto_mem (N : Nat) (x : Fin N) : x ∈ upto N N := by
  simp only [upto, List.mem_filterMap, List.mem_range]
  exact ⟨x.val, x.isLt, by simp⟩

theorem place_lt {i c C M : Nat} (hi : i < M) (hc : c < C) : i * C + c < M * C := by
  have h1 : (i + 1) * C ≤ M * C := Nat.mul_le_mul_right C hi
  rw [Nat.add_mul, Nat.one_mul] at h1
  omega
theorem place_mod {i c C : Nat} (hc : c < C) : (i * C + c) % C = c := by rw [Nat.mul_comm, Nat.mul_add_mod, Nat.mod_eq_of_lt hc]
theorem place_div {i c C : Nat} (hc : c < C) : (i * C + c) / C = i := by rw [Nat.mul_comm, Nat.mul_add_div (by omega), Nat.div_eq_of_lt hc, Nat.add_zero]

/-- A place as the two numbers that are handed on. -/
def place (C : Nat) {N : Nat} (x : Fin N) : Array Value := #[.int .i64 ((x.val % C : Nat) : Int), .int .i64 ((x.val / C : Nat) : Int)]

def KeepsBox (B : Nat) (W W' : World) : Prop := W'.heap[B]? = W.heap[B]?

def ItOut (f p1 p2 : Value) (C M : Nat) (Bc : Nat) (J : List (Fin (M * C)) → World → Prop) (a : Act) (w' : World) : Prop :=
  a.defers = [] ∧ a.tmps.size = 21 ∧ a.tmps[0]? = some f ∧ a.tmps[1]? = some p1 ∧ a.tmps[2]? = some p2 ∧ a.tmps[6]? = some (.int .i64 (M : Int)) ∧
    ∃ i : Nat, i ≤ M ∧ a.tmps[7]? = some (.int .i64 (i : Int)) ∧ J (upto (M * C) (i * C)) w' ∧ w'.heap[Bc]? = some (.cells #[.int .i64 (C : Int)] 3 (0, 0))

def ItIn (f p1 p2 : Value) (C M i : Nat) (Bc : Nat) (J : List (Fin (M * C)) → World → Prop) (a : Act) (w' : World) : Prop :=
  a.defers = [] ∧ a.tmps.size = 21 ∧ a.tmps[0]? = some f ∧ a.tmps[1]? = some p1 ∧ a.tmps[2]? = some p2 ∧ a.tmps[6]? = some (.int .i64 (M : Int)) ∧ a.tmps[7]? = some (.int .i64 (i : Int)) ∧ a.tmps[4]? = some (.int .i64 (i : Int)) ∧ a.tmps[10]? = some (.int .i64 (C : Int)) ∧
    ∃ c : Nat, c ≤ C ∧ a.tmps[11]? = some (.int .i64 (c : Int)) ∧ J (upto (M * C) (i * C + c)) w' ∧ w'.heap[Bc]? = some (.cells #[.int .i64 (C : Int)] 3 (0, 0))

set_option maxHeartbeats 1000000 in
theorem places_stops (n C M Bm Bc : Nat) (hC : C < 1099511627776) (hM : M < 1099511627776) (w : World) (hm : w.heap[Bm]? = some (.cells #[.int .i64 (M : Int)] 3 (0, 0))) (hc : w.heap[Bc]? = some (.cells #[.int .i64 (C : Int)] 3 (0, 0))) :
    SeqStopsK Fence.wide n Try.prog 39 #[.pointer (some ⟨Bm, 0, none⟩), .pointer (some ⟨Bc, 0, none⟩)] (place C (N := M * C)) (KeepsBox Bc) (fun xs => xs = upto (M * C) (M * C)) (fun pre => pre.length ≤ M * C) (M * C) w := by
  intro l J Jx W hW _ _ hY h0
  have hm' : W.cell? ⟨Bm, 0, none⟩ = some (.int .i64 (M : Int)) := by rw [cell_of ((hW.block Bm (lt_of_heap hm)).trans hm)]; rfl
  have hc' := (hW.block Bc (lt_of_heap hc)).trans hc
  have HY := Lib.hid hY
  clear hY
  refine callsIn_of_wp Try.func39 rfl trivial ?_ rfl
  simp only [Try.ntmps39, List.size_toArray, List.length_cons, List.length_nil, Nat.reduceAdd, Nat.reduceSub, Array.replicate_succ, Array.replicate_zero, List.push_toArray, List.append_toArray, List.nil_append, List.cons_append]
  gi_wp2
  refine wpIn_loop (ItOut (.func (.yield l) #[] #[]) (.pointer (some ⟨Bm, 0, none⟩)) (.pointer (some ⟨Bc, 0, none⟩)) C M Bc J) (fun a _ => M - (intOf (a.tmps.getD 7 undef)).toNat) ?_ ?_
  · exact ⟨rfl, rfl, rfl, rfl, rfl, rfl, 0, Nat.zero_le _, rfl, by rw [Nat.zero_mul, upto_zero]; exact h0, hc'⟩
  · clear hm' h0 hc' hW hm hc
    rintro ⟨tm, df⟩ w1 ⟨rfl, hs, e0, e1, e2, e6, i, hi, e7, hJ, hb⟩
    simp only at hs e0 e1 e2 e6 e7
    obtain ⟨f, hf, hg⟩ := fr_open hs
    have g0 := hg _ _ e0
    have g1 := hg _ _ e1
    have g2 := hg _ _ e2
    have g6 := hg _ _ e6
    have g7 := hg _ _ e7
    simp only [List.range, List.range.loop, List.map] at hf
    rw [g0, g1, g2, g6, g7] at hf
    clear g0 g1 g2 g6 g7 hg hs e0 e1 e2 e6 e7
    subst hf
    have HJ := Lib.hid hJ
    clear hJ
    by_cases hlt : i < M
    · have hd : decide ((i : Int) < (M : Int)) = true := decide_eq_true (by omega)
      have hcc : w1.cell? ⟨Bc, 0, none⟩ = some (.int .i64 (C : Int)) := by rw [cell_of hb]; rfl
      have HB := Lib.hid hb
      have HL := Lib.hid hlt
      clear hb hi hlt
      gi_wp2
      refine wpIn_loop (ItIn (.func (.yield l) #[] #[]) (.pointer (some ⟨Bm, 0, none⟩)) (.pointer (some ⟨Bc, 0, none⟩)) C M i Bc J) (fun a _ => C - (intOf (a.tmps.getD 11 undef)).toNat) ?_ ?_
      · exact ⟨rfl, rfl, rfl, rfl, rfl, rfl, rfl, rfl, rfl, 0, Nat.zero_le _, rfl, by rw [Nat.add_zero]; exact HJ.out, HB.out⟩
      · clear HJ hcc HB
        rintro ⟨tm, df⟩ w2 ⟨rfl, hs, e0, e1, e2, e6, e7, e4, e10, c, hcl, e11, hJ, hb⟩
        simp only at hs e0 e1 e2 e6 e7 e4 e10 e11
        obtain ⟨f2, hf, hg⟩ := fr_open hs
        have g0 := hg _ _ e0
        have g1 := hg _ _ e1
        have g2 := hg _ _ e2
        have g6 := hg _ _ e6
        have g7 := hg _ _ e7
        have g4 := hg _ _ e4
        have g10 := hg _ _ e10
        have g11 := hg _ _ e11
        simp only [List.range, List.range.loop, List.map] at hf
        rw [g0, g1, g2, g6, g7, g4, g10, g11] at hf
        clear g0 g1 g2 g6 g7 g4 g10 g11 hg hs e0 e1 e2 e6 e7 e4 e10 e11
        subst hf
        have HB := Lib.hid hb
        clear hb
        by_cases hlc : c < C
        · have hk := place_lt HL.out hlc
          obtain ⟨fn, tmps, assign, body, hy, hR⟩ := HY.out (upto (M * C) (i * C + c)) ⟨i * C + c, hk⟩ w2 hJ (by rw [upto_length _ _ (by omega)]; exact hk)
          simp only [place, place_mod hlc, place_div hlc] at hy
          rw [← upto_succ] at hR
          have HLC := Lib.hid hlc
          have HK := Lib.hid hk
          have hd2 : decide ((c : Int) < (C : Int)) = true := decide_eq_true (by omega)
          clear hlc hk hcl hJ
          gi_wp2
          refine ⟨fun h => (by cases h), ?_⟩
          refine hR.mono ?_
          rintro e W3 (⟨rfl, hJ3, hk3⟩ | ⟨rfl, hJx3⟩)
          · have hb3 : W3.heap[Bc]? = some (.cells #[.int .i64 (C : Int)] 3 (0, 0)) := hk3.trans HB.out
            have HJ3 := Lib.hid hJ3
            have HB3 := Lib.hid hb3
            clear hJ3 hb3 hk3 hR
            gi_wp2
            refine ⟨⟨rfl, rfl, rfl, rfl, rfl, rfl, rfl, rfl, rfl, c + 1, HLC.out, ?_, HJ3.out, HB3.out⟩, ?_⟩
            · simp
            · have := HLC.out
              simp [intOf]
              omega
          · gi_wp2
            refine bodyPost_ret (results_none rfl _ _ _) rfl ?_
            exact ⟨⟨_, rfl⟩, .inr ⟨_, by rw [upto_length _ _ (by have := HK.out; omega)]; exact HK.out, hJx3⟩⟩
        · have hd2 : decide ((c : Int) < (C : Int)) = false := decide_eq_false (by omega)
          have hcC : c = C := by omega
          subst hcC
          have HJ := Lib.hid hJ
          clear hJ hlc hcl
          gi_wp2
          refine ⟨⟨rfl, rfl, rfl, rfl, rfl, rfl, i + 1, HL.out, ?_, ?_, HB.out⟩, ?_⟩
          · simp
          · rw [Nat.add_mul, Nat.one_mul]; exact HJ.out
          · have := HL.out
            simp [intOf]
            omega
    · have hd : decide ((i : Int) < (M : Int)) = false := decide_eq_false (by omega)
      have hiM : i = M := by omega
      subst hiM
      have HB := Lib.hid hb
      clear hlt hi hb
      gi_wp2
      go_end0
      exact ⟨⟨_, rfl⟩, .inl ⟨_, rfl, HJ.out⟩⟩

end Go.Proofs.Ytpiongdkfebchaa
