/- Package section: the iterator over the parts' numbers. -/
import Derived.Test.YtlbnjclchmnomaaSecAhead
import Derived.Test.YtlbnjclchmnomaaPk3
import Derived.Test.YtlbnjclchmnomaaPk24
namespace Go.Proofs.Ytlbnjclchmnomaa
open Go.RowKit Go.Shelf Bx
attribute [local go_sem] Oper.semAt_some

/-- A window of a slice, as a value. -/
def winV (lo : Option Addr) (lc z0 z1 : Nat) : Value := .slice (if lc = z0 then lo else lo.map (fun x => x.add z0)) (z1 - z0) (lc - z0)

/-- A part's number and its numbers, as they are handed on. -/
def wenc (lo : Option Addr) (lc : Nat) (C : List Nat) (x : Fin C.length) : Array Value := #[.int .i64 (x.val : Int), winV lo lc (C.take x.val).sum (C.take (x.val + 1)).sum]

/-- Some blocks are as they were. -/
def KeepsAll (S : Nat → Prop) (W W' : World) : Prop := ∀ k, S k → W'.heap[k]? = W.heap[k]?

theorem keepsAll_t {S : Nat → Prop} {A B C : World} (h : KeepsAll S A B) (k : KeepsAll S B C) : KeepsAll S A C := fun j hj => (k j hj).trans (h j hj)
theorem keepsAll_b {S : Nat → Prop} {w : World} (hb : ∀ k, S k → k < w.heap.size) (W : World) (l : Nat) (o o' : Obj) (hl : w.heap.size ≤ l) (_ : W.heap[l]? = some o) (_ : o.isCells = false) (_ : o.isWalk = false) : KeepsAll S W (W.putObj l o') :=
  fun k hk => World.putObj_heap_other (by have := hb k hk; omega)

def SItInv (f p1 p2 vc : Value) (S : Nat → Prop) (w : World) (C : List Nat) (J : List (Fin C.length) → World → Prop) (a : Act) (w' : World) : Prop :=
  a.defers = [] ∧ a.tmps.size = 28 ∧ a.tmps[0]? = some f ∧ a.tmps[1]? = some p1 ∧ a.tmps[2]? = some p2 ∧ a.tmps[7]? = some vc ∧ a.tmps[8]? = some (.int .i64 (C.length : Int)) ∧
    ∃ i : Nat, i ≤ C.length ∧ a.tmps[9]? = some (.int .i64 (i : Int)) ∧ a.tmps[4]? = some (.int .i64 ((C.take i).sum : Int)) ∧ J (upto C.length i) w' ∧ KeepsAll S w w'

set_option maxRecDepth 10000 in
set_option maxHeartbeats 1000000 in
theorem pieces_stops (n : Nat) (C : List Nat) (lo : Option Addr) (ln lc : Nat) (co : Option Addr) (cc : Nat) (Bc Bl : Nat) (S : Nat → Prop) (w : World) (hb : w.heap[Bc]? = some (.cells #[.slice co C.length cc] 22 (0, 0))) (hbl : w.heap[Bl]? = some (.cells #[.slice lo ln lc] 22 (0, 0)))
    (hC : ∀ W, KeepsAll S w W → Sl W (.slice co C.length cc) (ivs (ni C))) (hSc : S Bc) (hSl : S Bl) (hS : ∀ k, S k → k < w.heap.size) (hsum : C.sum ≤ lc) (hlc : lc ≤ maxLen) :
    SeqStopsK Fence.wide n Try.prog 46 #[.pointer (some ⟨Bc, 0, none⟩), .pointer (some ⟨Bl, 0, none⟩)] (wenc lo lc C) (KeepsAll S) (fun xs => xs = upto C.length C.length) (fun pre => ∃ k, k ≤ C.length ∧ pre = upto C.length k) C.length w := by
  intro l J Jx W hW _ _ hY h0
  have kW : KeepsAll S w W := fun k hk => hW.block k (hS k hk)
  have hx1 : W.cell? ⟨Bc, 0, none⟩ = some (.slice co C.length cc) := by rw [cell_of ((kW Bc hSc).trans hb)]; rfl
  have HBL := Lib.hid (show ∀ W', KeepsAll S w W' → W'.cell? ⟨Bl, 0, none⟩ = some (.slice lo ln lc) from fun W' h => by rw [cell_of ((h Bl hSl).trans hbl)]; rfl)
  have HC := Lib.hid hC
  have HY := Lib.hid hY
  have KW := Lib.hid kW
  have H0 := Lib.hid h0
  have HSUM := Lib.hid (And.intro hsum hlc)
  obtain ⟨cap0, hcap0⟩ : ∃ c, c = cc := ⟨_, rfl⟩
  clear hY hC hb hbl hSc hSl hS hsum hlc kW h0 hcap0 hW
  refine callsIn_of_wp Try.func46 rfl trivial ?_ rfl
  simp only [Try.ntmps46, List.size_toArray, List.length_cons, List.length_nil, Nat.reduceAdd, Nat.reduceSub, Array.replicate_succ, Array.replicate_zero, List.push_toArray, List.append_toArray, List.nil_append, List.cons_append]
  gi_wp2
  refine wpIn_loop (SItInv (.func (.yield l) #[] #[]) (.pointer (some ⟨Bc, 0, none⟩)) (.pointer (some ⟨Bl, 0, none⟩)) (.slice co C.length cc) S w C J) (fun a _ => C.length - (intOf (a.tmps.getD 9 undef)).toNat) ?_ ?_
  · exact ⟨rfl, rfl, rfl, rfl, rfl, rfl, rfl, 0, Nat.zero_le _, rfl, rfl, by rw [upto_zero]; exact H0.out, KW.out⟩
  · clear hx1 H0 KW
    rintro ⟨tm, df⟩ w1 ⟨rfl, hs, e0, e1, e2, e7, e8, i, hi, e9, e4, hJ, hk⟩
    simp only at hs e0 e1 e2 e7 e8 e9 e4
    obtain ⟨f, hf, hg⟩ := fr_open hs
    have g0 := hg _ _ e0
    have g1 := hg _ _ e1
    have g2 := hg _ _ e2
    have g7 := hg _ _ e7
    have g8 := hg _ _ e8
    have g9 := hg _ _ e9
    have g4 := hg _ _ e4
    simp only [List.range, List.range.loop, List.map] at hf
    rw [g0, g1, g2, g7, g8, g9, g4] at hf
    clear g0 g1 g2 g7 g8 g9 g4 hg hs e0 e1 e2 e7 e8 e9 e4
    subst hf
    have HJ := Lib.hid hJ
    have HK := Lib.hid hk
    clear hJ hk
    by_cases hlt : i < C.length
    · have hd : decide ((i : Int) < (C.length : Int)) = true := decide_eq_true (by omega)
      have hi1 : (i : Int) < (C.length : Int) := by omega
      obtain ⟨b1, o1, rfl⟩ := (HC.out _ HK.out).where (by omega)
      have x1 := (HC.out _ HK.out).cellInt (i := i) (by rw [ni_length]; exact hlt)
      rw [ni_get] at x1
      have x2 := HBL.out _ HK.out
      have hsn := sum_next C i hlt
      have hsl := sum_take_le C (i + 1)
      have hmx : maxLen ≤ 9223372036854775807 := by simp [maxLen]
      have hzw : wrap64 (((C.take i).sum : Int) + (C.getD i 0 : Int)) = ((C.take (i + 1)).sum : Int) := by
        have := HSUM.out
        rw [w64_in _ (by omega)]; omega
      have r1 := fun w => run_win_i w lo ln lc (C.take i).sum (C.take (i + 1)).sum (by omega) (by have := HSUM.out; omega)
      have hWV : winV lo lc (C.take i).sum (C.take (i + 1)).sum = .slice (if lc = (C.take i).sum then lo else lo.map (fun x => x.add (C.take i).sum)) ((C.take (i + 1)).sum - (C.take i).sum) (lc - (C.take i).sum) := rfl
      obtain ⟨fn, tmps, assign, body, hy, hR⟩ := HY.out (upto C.length i) ⟨i, hlt⟩ w1 HJ.out (by rw [upto_length _ _ (by omega)]; exact hlt)
      simp only [wenc] at hy
      rw [← upto_succ] at hR
      rw [hWV] at hy
      have HLT := Lib.hid hlt
      have HIW := Lib.hid (show wrap64 ((i : Int) + 1) = ((i + 1 : Nat) : Int) by
        obtain ⟨_, _, e, h1, h2, _⟩ := HC.out _ HK.out
        simp only [Value.slice.injEq, ivs_length, ni_length] at e h1
        simp [maxLen] at h2
        rw [w64_in _ (by omega)]; omega)
      generalize hz1 : (C.take (i + 1)).sum = z1 at *
      have HZ1 := Lib.hid hz1
      clear hz1
      generalize (if lc = (C.take i).sum then lo else lo.map (fun x => x.add (C.take i).sum)) = vo at *
      generalize lc - (C.take i).sum = vcc at *
      generalize z1 - (C.take i).sum = vn at *
      generalize (C.take i).sum = z0 at *
      generalize C.getD i 0 = c at *
      have HZW := Lib.hid hzw
      clear hlt hi hsn hsl hmx hWV
      gi_wp2
      refine ⟨fun h => (by cases h), ?_⟩
      refine hR.mono ?_
      rintro e W3 (⟨rfl, hJ3, hk3⟩ | ⟨rfl, hJx3⟩)
      · have HJ3 := Lib.hid hJ3
        have HK3 := Lib.hid (keepsAll_t HK.out hk3)
        clear hJ3 hk3 hR hy
        gi_wp2
        rw [HIW.out, HZW.out]
        refine ⟨⟨rfl, rfl, rfl, rfl, rfl, rfl, rfl, i + 1, HLT.out, rfl, ?_, HJ3.out, HK3.out⟩, nearer HLT.out rfl⟩
        rw [HZ1.out]
        rfl
      · gi_wp2
        refine bodyPost_ret (results_none rfl _ _ _) rfl ?_
        exact ⟨⟨_, rfl⟩, .inr ⟨_, ⟨i + 1, HLT.out, rfl⟩, hJx3⟩⟩
    · have hd : decide ((i : Int) < (C.length : Int)) = false := decide_eq_false (by omega)
      have hiM : i = C.length := by omega
      subst hiM
      clear hlt hi
      gi_wp2
      go_end0
      exact ⟨⟨_, rfl⟩, .inl ⟨_, rfl, HJ.out⟩⟩

end Go.Proofs.Ytlbnjclchmnomaa
