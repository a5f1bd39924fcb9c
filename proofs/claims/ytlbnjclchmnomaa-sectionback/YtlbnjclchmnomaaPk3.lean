/- Loops over iterators: what holds from round to round, whatever lies beside; the first numbers below N. No program. Contracts of package rice: folded numbers, sizes. The reference's Same: two rows of bytes. Lists of bits and the numbers that they tell. No program. Contracts of the small functions of package bits: a width as it is held, how many bits are missing to a byte, the lowest bits of a byte. -/
import Derived.Test.YtlbnjclchmnomaaPk2
import Derived.Lib.Zigzag
import Derived.OpenShut
import Derived.Test.YtlbnjclchmnomaaPk1
import Derived.Test.YtlbnjclchmnomaaChecked
import Derived.WalkKit
import Derived.WalkLawsBesides
import Derived.WalkSpells
import Derived.PlainAid
import Derived.Lib.Hide

namespace Go.Proofs.Ytlbnjclchmnomaa
open Go.RowKit Go.Shelf Bx
attribute [local go_sem] Oper.semAt_some

theorem kept_ownFrom {β : Type} {S : Nat → Prop} {w : World} {B : Nat} (hB : w.heap.size ≤ B) : OwnFrom B (fun (_ : β) W => Kept S w W) :=
  fun _ _ _ _ hs hg hr => hs.grown hg (fun k hk => .inr (by have := (hr k hk).1; omega))

theorem heap_ownFrom {β : Type} {B k : Nat} {cs : Array Value} {t : TypeId} {fr : Nat × Nat} : OwnFrom B (fun (_ : β) W => W.heap[k]? = some (.cells cs t fr)) :=
  fun _ W W' row hs hg hr => (hg.block k (lt_of_heap hs) (fun e => by obtain ⟨_, o, ho, hc⟩ := hr k e.symm; rw [hs] at ho; cases ho; cases hc)).trans hs

theorem Kept.putObj {S : Nat → Prop} {a w : World} (h : Kept S a w) {l : Nat} (o : Obj) (hl : a.heap.size ≤ l) : Kept S a (w.putObj l o) :=
  h.grown (grownBy_putObj' w l o) (fun k e => by cases e; exact .inr hl)

theorem heap_putObj {w : World} {k l : Nat} {o o1 : Obj} (h : w.heap[k]? = some o1) (hne : k ≠ l) : (w.putObj l o).heap[k]? = some o1 := (World.putObj_heap_other hne).trans h

theorem keepsFrom_drewN (B : Nat) (W : World) (n : Nat) : KeepsFrom B W (W.drewN n) := ⟨Nat.le_refl _, fun _ _ _ h _ => h⟩

theorem box_ownFrom {β : Type} {B k : Nat} {t : TypeId} {fr : Nat × Nat} {G : β → Value → Prop} : OwnFrom B (fun (s : β) W => ∃ v, W.heap[k]? = some (.cells #[v] t fr) ∧ G s v) :=
  fun _ W W' row hs hg hr => by
    obtain ⟨v, h1, h2⟩ := hs
    exact ⟨v, heap_ownFrom (β := Unit) () W W' row h1 hg hr, h2⟩

theorem wpListIn_store_row {F : Fence} {n : Nat} {P : Program} {ops : Array Oper} {rest : List Oper} {o : Oper} {a : Act} {w : World} {Q : Exit → Act → World → Prop} (hgd : o.guard = none) (ty : TypeId) (x y : Operand) (ho : o.op = .store ty x y)
    (g : Nat) (cs : Array Value) (hx : a.eval x = .pointer (some ⟨g, 0, none⟩)) (hy : a.eval y = .agg cs) (t : TypeId) (old : Array Value) (hg : w.heap[g]? = some (.cells old t (0, 0))) (hi : (P.info? ty).map (·.size) = some cs.size) (hold : old.size = cs.size) (h1 : cs.all (·.oneCell') = true)
    (h : wpListIn F n P ops Q rest (a.put o.dst undef) (w.setRow g cs)) : wpListIn F n P ops Q (o :: rest) a w := by
  refine wpListIn_plain hgd fun K hK => ?_
  refine ⟨by simp [Oper.about, ho], ?_⟩
  rw [Oper.semAt_plain F _ _ (by rw [ho]; intro c hc'; cases hc')]
  have hr := store_row (P := P) (ty := ty) hg hi hold h1
  simp [execOp, ho, hx, hy, hr, Result.andThen, Oper.uponIn]
  exact hK _ _ h

theorem keepsOthers_setRow {w : World} {g : Nat} {cur cs : Array Value} {t : TypeId} {fr : Nat × Nat} (h : w.heap[g]? = some (.cells cur t fr)) : KeepsOthers w (w.setRow g cs) :=
  ⟨by simp [World.setRow], fun k o hk ho => by
    by_cases hkg : k = g
    · subst hkg; rw [h] at hk; cases hk; cases ho
    · exact (heap_row_other cs hkg).trans hk⟩

theorem kept_below {a b c : World} (h : Kept Nix a b) (k : Below a.heap.size b c) : Kept Nix a c :=
  ⟨k.os.trans h.os, k.tape.trans h.tape, k.output.trans h.output, Nat.le_trans h.size k.size, fun i hi hn => (k.block i hi).trans (h.block i hi hn)⟩

theorem u8s_snoc (B : List Nat) (x : Nat) : u8s B ++ [.int .u8 (x : Int)] = u8s (B ++ [x]) := by simp [u8s]

/-- The first k of all numbers below N. -/
def upto (N k : Nat) : List (Fin N) := (List.range k).filterMap (fun j => if h : j < N then some ⟨j, h⟩ else none)

theorem upto_zero (N : Nat) : upto N 0 = [] := rfl

theorem upto_succ (N k : Nat) (h : k < N) : upto N (k + 1) = upto N k ++ [⟨k, h⟩] := by simp [upto, List.range_succ, h]

theorem upto_length (N k : Nat) (h : k ≤ N) : (upto N k).length = k := by
  induction k with
  | zero => rfl
  | succ k ih => rw [upto_succ N k h, List.length_append, ih (by omega)]; rfl

theorem upto_map {α : Type} (N k : Nat) (h : k ≤ N) (f : Nat → α) : (upto N k).map (fun x => f x.val) = (List.range k).map f := by
  induction k with
  | zero => rfl
  | succ k ih => rw [upto_succ N k h, List.map_append, ih (by omega), List.range_succ, List.map_append]; rfl

theorem upto_mem (N : Nat) (x : Fin N) : x ∈ upto N N := by
  simp only [upto, List.mem_filterMap, List.mem_range]
  exact ⟨x.val, x.isLt, by simp⟩

end Go.Proofs.Ytlbnjclchmnomaa

namespace Go.Proofs.Ytlbnjclchmnomaa
open Go.RowKit Bx

/-- A number folded; unfolded; k as it is held; whether one is near. -/
def fd (n : Int) : Nat := if 0 ≤ n then (2 * n).toNat else (-(2 * n) - 1).toNat
def uf (u : Nat) : Int := if u % 2 = 0 then ((u / 2 : Nat) : Int) else -((u / 2 : Nat) : Int) - 1
def kk (k : Int) : Nat := (max 0 (min k 30)).toNat
def nr (n : Int) : Bool := decide (-8589934592 ≤ n) && decide (n < 8589934592)

theorem kk_le (k : Int) : kk k ≤ 30 := by unfold kk; omega
theorem fd_lt {n : Int} (h0 : -9223372036854775808 ≤ n) (h1 : n ≤ 9223372036854775807) : fd n < 18446744073709551616 := by
  unfold fd; split <;> omega
theorem fd_near {n : Int} (h : nr n = true) : fd n < 17179869184 := by
  simp [nr] at h
  unfold fd; split <;> omega
theorem uf_fd (n : Int) : uf (fd n) = n := by
  unfold uf fd
  split <;> split <;> omega
theorem fd_uf (u : Nat) : fd (uf u) = u := by
  unfold uf fd
  split <;> split <;> omega

theorem fold_xor (n : Int) (h0 : -9223372036854775808 ≤ n) (h1 : n ≤ 9223372036854775807) :
    bits .xor .u64 (IntKind.u64.wrap (IntKind.u64.wrap n * 2)) (IntKind.u64.wrap (n / 9223372036854775808)) = ((fd n : Nat) : Int) := by
  have e1 : IntKind.u64.wrap (IntKind.u64.wrap n * 2) = (((2 * n) % 18446744073709551616).toNat : Int) := by
    rw [IntKind.wrap_u64, IntKind.wrap_u64]
    omega
  rw [e1]
  by_cases hn : 0 ≤ n
  · have e2 : IntKind.u64.wrap (n / 9223372036854775808) = ((0 : Nat) : Int) := by rw [IntKind.wrap_u64]; omega
    rw [e2, u64_xor_nat _ _ (by omega) (by omega), Nat.xor_zero]
    unfold fd; rw [if_pos hn]; omega
  · have e2 : IntKind.u64.wrap (n / 9223372036854775808) = ((2 ^ 64 - 1 : Nat) : Int) := by rw [IntKind.wrap_u64]; omega
    rw [e2, u64_xor_nat _ _ (by omega) (by omega), Nat.xor_comm, Lib.xor_ones64 _ (by omega)]
    unfold fd; rw [if_neg hn]; omega

set_option maxHeartbeats 400000 in
theorem fold_any (n : Int) (w : World) (h0 : -9223372036854775808 ≤ n) (h1 : n ≤ 9223372036854775807) : Calls Try.prog 44 #[.int .i64 n] w fun e w' => e = .returned (.int .u64 (fd n : Nat)) ∧ w = w' := by
  go_enter Try.func44, Try.ntmps44
  go_wp2
  go_ret
  refine ⟨?_, rfl⟩
  rw [← fold_xor n h0 h1]
  rfl

theorem xor_zero_i64 (x : Nat) (hx : x < 9223372036854775808) : bits .xor .i64 (x : Int) 0 = (x : Int) := by
  show IntKind.i64.wrap ((BitVec.ofInt 64 (x : Int) ^^^ BitVec.ofInt 64 0).toNat : Int) = _
  have h2 : (BitVec.ofInt 64 (x : Int)).toNat = x := by
    rw [BitVec.ofInt_natCast, BitVec.toNat_ofNat]; exact Nat.mod_eq_of_lt (by omega)
  have h1 : (BitVec.ofInt 64 0).toNat = 0 := by decide
  rw [BitVec.toNat_xor, h1, h2, Nat.xor_zero, IntKind.wrap_i64]
  omega
theorem xor_ones_i64 (x : Nat) (hx : x < 9223372036854775808) : bits .xor .i64 (x : Int) (-1) = -(x : Int) - 1 := by
  rw [← Lib.i64_not x hx]
  show IntKind.i64.wrap ((BitVec.ofInt 64 (x : Int) ^^^ BitVec.ofInt 64 (-1)).toNat : Int) = IntKind.i64.wrap ((BitVec.ofInt 64 (-1) ^^^ BitVec.ofInt 64 (x : Int)).toNat : Int)
  rw [BitVec.xor_comm]

theorem unfold_xor (u : Nat) (h : u < 18446744073709551616) : bits .xor .i64 ((u : Int) / 2) (wrap64 (-wrap64 (bits .and .u64 (u : Int) 1))) = uf u := by
  rw [Lib.u64_and1 _ (by omega) (by omega), show (u : Int) / 2 = ((u / 2 : Nat) : Int) by omega]
  unfold uf
  by_cases hu : u % 2 = 0
  · rw [if_pos hu, show wrap64 (-wrap64 ((u : Int) % 2)) = 0 by unfold wrap64; omega, xor_zero_i64 _ (by omega)]
  · rw [if_neg hu, show wrap64 (-wrap64 ((u : Int) % 2)) = -1 by unfold wrap64; omega, xor_ones_i64 _ (by omega)]

set_option maxHeartbeats 400000 in
theorem unfold_any (u : Nat) (w : World) (h0 : u < 18446744073709551616) : Calls Try.prog 67 #[.int .u64 u] w fun e w' => e = .returned (.int .i64 (uf u)) ∧ w = w' := by
  go_enter Try.func67, Try.ntmps67
  go_wp2
  go_ret
  exact ⟨ret_int (unfold_xor u h0), rfl⟩

set_option maxHeartbeats 400000 in
theorem rheld_any (n : Int) (w : World) : Calls Try.prog 63 #[.int .i64 n] w fun e w' => e = .returned (.int .i64 (kk n : Nat)) ∧ w = w' := by
  have hw : (kk n : Int) = max 0 (min n 30) := by unfold kk; omega
  have HW := Lib.hid hw
  clear hw
  go_enter Try.func63, Try.ntmps63
  go_wp2
  all_goals
    go_ret
    exact ⟨ret_int (by rw [HW.out]; omega), rfl⟩

set_option maxHeartbeats 400000 in
theorem near_any (n : Int) (w : World) : Calls Try.prog 55 #[.int .i64 n] w fun e w' => e = .returned (.bool (nr n)) ∧ w = w' := by
  go_enter Try.func55, Try.ntmps55
  go_wp2
  all_goals
    go_ret
    refine ⟨congrArg (fun b => Ending.returned (Value.bool b)) ?_, rfl⟩
    simp only [nr]
    first | (rw [decide_eq_true (p := -8589934592 ≤ n) (by omega), Bool.true_and]) | (rw [decide_eq_false (p := -8589934592 ≤ n) (by omega), Bool.false_and])

set_option maxHeartbeats 400000 in
theorem higher_any (n : Int) (k : Nat) (w : World) (h : nr n = true) (hk : k ≤ 30) : Calls Try.prog 64 #[.int .i64 n, .int .i64 k] w fun e w' => e = .returned (.int .i64 ((fd n / 2 ^ k : Nat) : Int)) ∧ w = w' := by
  have hb : -8589934592 ≤ n ∧ n < 8589934592 := by simpa [nr] using h
  have hf := fd_near h
  have HF := Lib.hid (fold_any n w (by omega) (by omega))
  have HH := Lib.hid hb
  generalize fd n = u at *
  clear h hb
  go_enter Try.func64, Try.ntmps64
  go_wp2_with (go_at_call 44; refine HF.out.mono ?_; rintro e w' ⟨rfl, rfl⟩)
  go_ret
  refine ⟨ret_int ?_, rfl⟩
  have hd : u / 2 ^ k ≤ u := Nat.div_le_self _ _
  rw [show (u : Int) / 2 ^ k = ((u / 2 ^ k : Nat) : Int) by rw [Int.natCast_ediv, Int.natCast_pow]; rfl]
  generalize u / 2 ^ k = x at *
  unfold wrap64
  omega

/-- How many bits a number has. -/
def sz (n k : Int) : Int := if nr n = true then ((fd n / 2 ^ kk k : Nat) : Int) + 1 + (kk k : Int) else -1

theorem near_bounds {n : Int} (h : nr n = true) : -8589934592 ≤ n ∧ n < 8589934592 := by simpa [nr] using h
theorem high_lt {n : Int} (h : nr n = true) (k : Nat) : fd n / 2 ^ k < 17179869184 := Nat.lt_of_le_of_lt (Nat.div_le_self _ _) (fd_near h)

set_option maxHeartbeats 400000 in
theorem size_any (n k : Int) (w : World) : Calls Try.prog 65 #[.int .i64 n, .int .i64 k] w fun e w' => e = .returned (.int .i64 (sz n k)) ∧ w = w' := by
  by_cases hn : nr n = true
  · have e1 : sz n k = ((fd n / 2 ^ kk k : Nat) : Int) + 1 + (kk k : Int) := by simp [sz, hn]
    have hkl := kk_le k
    have hh := high_lt hn (kk k)
    have HN := Lib.hid (near_any n w)
    rw [hn] at HN
    have HH := Lib.hid (higher_any n (kk k) w hn hkl)
    have HK := Lib.hid (rheld_any k w)
    rw [e1]
    clear e1 hn
    generalize fd n / 2 ^ kk k = x at *
    generalize kk k = y at *
    go_enter Try.func65, Try.ntmps65
    go_wp2_with (first | (go_at_call 55; refine HN.out.mono ?_; rintro e w' ⟨rfl, rfl⟩) | (go_at_call 63; refine HK.out.mono ?_; rintro e w' ⟨rfl, rfl⟩) | (go_at_call 64; refine HH.out.mono ?_; rintro e w' ⟨rfl, rfl⟩))
    go_ret
    exact ⟨rfl, rfl⟩
  · have e1 : sz n k = -1 := by simp [sz, hn]
    have hn' : nr n = false := by simpa using hn
    have HN := Lib.hid (near_any n w)
    rw [hn'] at HN
    rw [e1]
    clear e1 hn hn'
    go_enter Try.func65, Try.ntmps65
    go_wp2_with (go_at_call 55; refine HN.out.mono ?_; rintro e w' ⟨rfl, rfl⟩)
    go_ret
    exact ⟨rfl, rfl⟩
end Go.Proofs.Ytlbnjclchmnomaa

namespace Go.Proofs.Ytlbnjclchmnomaa
open Go.RowKit Bx

def SameInv (va vb : Value) (A B : List Nat) (w : World) (a : Act) (w' : World) : Prop :=
  a.defers = [] ∧ a.tmps.size = 26 ∧ a.tmps[0]? = some va ∧ a.tmps[1]? = some vb ∧ ∃ i, i ≤ A.length ∧ a.tmps[5]? = some (.int .i64 ((i : Nat) : Int)) ∧ A.take i = B.take i ∧ ∃ n, w' = w.drewN n

set_option maxHeartbeats 400000 in
theorem same_any (va vb : Value) (A B : List Nat) (w : World) (ha : Sl w va (u8s A)) (hb : Sl w vb (u8s B)) (hl : A.length < 1099511627776) :
    Calls Try.prog 19 #[va, vb] w fun e w' => e = .returned (.bool (decide (A = B))) ∧ ∃ n, w' = w.drewN n := by
  by_cases hlen : A.length = B.length
  · obtain ⟨ao, ca, hva⟩ := ha.shape
    obtain ⟨bo, cb, hvb⟩ := hb.shape
    have hca : 0 < A.length → ∃ b off, ao = some ⟨b, off, none⟩ ∧ ∀ j, j < A.length → w.cell? ⟨b, off + j, none⟩ = some (.int .u8 ((A.getD j 0 : Nat) : Int)) := by
      intro h0
      obtain ⟨b, off, cap, e, _, _, hh⟩ := ha.cells h0
      rw [hva] at e
      simp only [Value.slice.injEq] at e
      exact ⟨b, off, e.1, hh⟩
    have hcb : 0 < B.length → ∃ b off, bo = some ⟨b, off, none⟩ ∧ ∀ j, j < B.length → w.cell? ⟨b, off + j, none⟩ = some (.int .u8 ((B.getD j 0 : Nat) : Int)) := by
      intro h0
      obtain ⟨b, off, cap, e, _, _, hh⟩ := hb.cells h0
      rw [hvb] at e
      simp only [Value.slice.injEq] at e
      exact ⟨b, off, e.1, hh⟩
    have HCA := Lib.hid hca
    have HCB := Lib.hid hcb
    have ht : ((A.length : Int) != (B.length : Int)) = false := by simp [hlen]
    have HLEN := Lib.hid hlen
    subst hva
    subst hvb
    clear ha hb hca hcb hlen
    go_enter Try.func19, Try.ntmps19
    go_wp2
    refine wp_loop (SameInv (.slice ao A.length ca) (.slice bo B.length cb) A B w) (fun a _ => A.length - (intOf (a.tmps.getD 5 undef)).toNat) ?_ ?_
    · exact ⟨rfl, rfl, rfl, rfl, 0, Nat.zero_le _, rfl, by simp, 0, rfl⟩
    · rintro ⟨tm, df⟩ w1 ⟨rfl, hs, h0, h1, i, hi, h5, htk, n1, rfl⟩
      simp only at hs h0 h1 h5
      obtain ⟨f, hf, hg⟩ := fr_open hs
      have e0 := hg _ _ h0
      have e1 := hg _ _ h1
      have e5 := hg _ _ h5
      simp only [List.range, List.range.loop, List.map] at hf
      rw [e0, e1, e5] at hf
      clear e0 e1 e5 hg hs h0 h1 h5
      subst hf
      have HTK := Lib.hid htk
      clear htk
      by_cases hlt : i < A.length
      · obtain ⟨b1, o1, rfl, hc1⟩ := HCA.out (by omega)
        obtain ⟨b2, o2, rfl, hc2⟩ := HCB.out (by have := HLEN.out; omega)
        have hd1 := hc1 i hlt
        have hd2 := hc2 i (by have := HLEN.out; omega)
        clear hc1 hc2
        have hi1 : (i : Int) < (A.length : Int) := by omega
        have hi2 : (i : Int) < (B.length : Int) := by have := HLEN.out; omega
        generalize hx : A.getD i 0 = x at *
        generalize hy : B.getD i 0 = y at *
        have HX := Lib.hid hx
        have HY := Lib.hid hy
        clear hx hy
        by_cases hxy : x = y
        · have hxb : ((x : Int) != (y : Int)) = false := by simp [hxy]
          have HXY := Lib.hid hxy
          clear hxy
          go_wp2
          go_quiet (fail)
          go_wp2
          refine ⟨⟨rfl, rfl, rfl, rfl, i + 1, hlt, rfl, ?_, _, rfl⟩, ?_⟩
          · exact take_step HTK.out hlt (by have := HLEN.out; omega) (by rw [HX.out, HY.out, HXY.out])
          · simp [intOf]; omega
        · have hxb : ((x : Int) != (y : Int)) = true := by simp; omega
          have HNE : ¬ A = B := fun e => hxy (by rw [← HX.out, ← HY.out, e])
          have e1 : decide (A = B) = false := by simp [HNE]
          clear hxy HNE
          go_wp2
          go_quiet (fail)
          go_wp2
          go_ret
          exact ⟨by rw [e1]; rfl, _, World.drewN_drewN _ _ _⟩
      · have e1 : A = B := by
          have h := HTK.out
          have := HLEN.out
          rwa [List.take_of_length_le (by omega), List.take_of_length_le (by omega)] at h
        have e2 : decide (A = B) = true := by simp [e1]
        clear e1
        go_wp2
        go_ret
        exact ⟨by rw [e2]; rfl, _, rfl⟩
  · have hne : ¬ A = B := fun e => hlen (by rw [e])
    have e1 : decide (A = B) = false := by simp [hne]
    rw [e1]
    obtain ⟨ao, ca, rfl⟩ := ha.shape
    obtain ⟨bo, cb, rfl⟩ := hb.shape
    have ht : ((A.length : Int) != (B.length : Int)) = true := by simp; omega
    clear ha hb e1 hne
    go_enter Try.func19, Try.ntmps19
    go_wp2
    go_ret
    exact ⟨rfl, 0, rfl⟩

end Go.Proofs.Ytlbnjclchmnomaa

namespace Go.Proofs.Ytlbnjclchmnomaa
open Bx

def wid (n : Int) : Nat := (max 0 (min n 64)).toNat

theorem wid_le (n : Int) : wid n ≤ 64 := by unfold wid; omega

/-- What bits tell. -/
def num (l : List Bool) : Nat := l.foldl (fun n b => 2 * n + b.toNat) 0

theorem num_nil : num [] = 0 := rfl

theorem num_snoc (l : List Bool) (b : Bool) : num (l ++ [b]) = 2 * num l + b.toNat := by simp [num, List.foldl_append]

theorem num_append (l : List Bool) : ∀ m, num (l ++ m) = num l * 2 ^ m.length + num m := by
  suffices h : ∀ (n : Nat) (m : List Bool), m.length = n → num (l ++ m) = num l * 2 ^ n + num m from fun m => h m.length m rfl
  intro n
  induction n with
  | zero => intro m hm; have : m = [] := List.eq_nil_of_length_eq_zero hm; subst this; simp [num]
  | succ n ih =>
    intro m hm
    obtain ⟨i, x, rfl⟩ := snoc_of_pos m (by omega)
    have := ih i (by simpa using hm)
    rw [← List.append_assoc, num_snoc, num_snoc, this, Nat.pow_succ, Nat.mul_add, Nat.add_assoc]
    congr 1
    rw [← Nat.mul_assoc, Nat.mul_comm 2 (num l), Nat.mul_assoc, Nat.mul_comm 2]

theorem num_lt : ∀ (n : Nat) (l : List Bool), l.length = n → num l < 2 ^ n := by
  intro n
  induction n with
  | zero => intro l hl; have : l = [] := List.eq_nil_of_length_eq_zero hl; subst this; simp [num]
  | succ n ih =>
    intro l hl
    obtain ⟨i, x, rfl⟩ := snoc_of_pos l (by omega)
    have := ih i (by simpa using hl)
    rw [num_snoc, Nat.pow_succ]
    cases x <;> simp <;> omega

theorem num_zeros (k : Nat) : num (List.replicate k false) = 0 := by
  induction k with
  | zero => rfl
  | succ k ih => rw [List.replicate_succ', num_snoc, ih]; rfl

/-- The k lowest bits of a number. -/
def dg : Nat → Nat → List Bool
  | 0, _ => []
  | k + 1, n => dg k (n / 2) ++ [n % 2 == 1]

theorem dg_length (k : Nat) : ∀ n, (dg k n).length = k := by
  induction k with
  | zero => intro n; rfl
  | succ k ih => intro n; simp [dg, ih]

theorem num_dg (k : Nat) : ∀ n, num (dg k n) = n % 2 ^ k := by
  induction k with
  | zero => intro n; simp [dg, num, Nat.mod_one]
  | succ k ih =>
    intro n
    rw [dg, num_snoc, ih, Nat.pow_succ, Nat.mul_comm (2 ^ k) 2, Nat.mod_mul]
    have : (n % 2 == 1).toNat = n % 2 := by rcases Nat.mod_two_eq_zero_or_one n with h | h <;> simp [h]
    omega

theorem dg_head (m : Nat) : ∀ n, dg (m + 1) n = (n / 2 ^ m % 2 == 1) :: dg m n := by
  induction m with
  | zero => intro n; simp [dg]
  | succ m ih =>
    intro n
    have e : n / 2 / 2 ^ m = n / 2 ^ (m + 1) := by rw [Nat.div_div_eq_div_mul, Nat.pow_succ, Nat.mul_comm]
    rw [dg, ih, e, List.cons_append]
    rfl

/-- A part of a list of bits is a part of its number. -/
theorem num_part (L : List Bool) (a k : Nat) (h : a + k ≤ L.length) : num ((L.drop a).take k) = num L / 2 ^ (L.length - (a + k)) % 2 ^ k := by
  have e : L = (L.take a ++ (L.drop a).take k) ++ L.drop (a + k) := by
    rw [← List.take_add, List.take_append_drop]
  have hk : ((L.drop a).take k).length = k := by simp; omega
  have hd : (L.drop (a + k)).length = L.length - (a + k) := by simp
  have h1 := num_append (L.take a ++ (L.drop a).take k) (L.drop (a + k))
  rw [← e, hd] at h1
  have hlt := num_lt _ _ hd
  rw [h1, Nat.mul_comm, Nat.mul_add_div (Nat.two_pow_pos _), Nat.div_eq_of_lt hlt, Nat.add_zero, num_append, hk, Nat.mul_comm, Nat.mul_add_mod, Nat.mod_eq_of_lt (num_lt _ _ hk)]

/-- The bits of bytes. -/
def bitsOf (B : List Nat) : List Bool := B.flatMap (dg 8)

theorem bitsOf_snoc (B : List Nat) (b : Nat) : bitsOf (B ++ [b]) = bitsOf B ++ dg 8 b := by simp [bitsOf]

theorem bitsOf_length : ∀ (n : Nat) (B : List Nat), B.length = n → (bitsOf B).length = 8 * n := by
  intro n
  induction n with
  | zero => intro B h; have : B = [] := List.eq_nil_of_length_eq_zero h; subst this; rfl
  | succ n ih =>
    intro B h
    obtain ⟨i, x, rfl⟩ := snoc_of_pos B (by omega)
    rw [bitsOf_snoc, List.length_append, ih i (by simpa using h), dg_length]; omega

theorem num_bitsOf : ∀ (n : Nat) (B : List Nat), B.length = n → (∀ b ∈ B, b < 256) → num (bitsOf B) = be B := by
  intro n
  induction n with
  | zero => intro B h _; have : B = [] := List.eq_nil_of_length_eq_zero h; subst this; rfl
  | succ n ih =>
    intro B h hB
    obtain ⟨i, x, rfl⟩ := snoc_of_pos B (by omega)
    have hx := hB x (by simp)
    rw [bitsOf_snoc, num_append, dg_length, num_dg, be_snoc, ih i (by simpa using h) (fun b hb => hB b (by simp [hb])), Nat.mod_eq_of_lt (by omega)]

theorem getD_lt (B : List Nat) (i : Nat) (hB : ∀ b ∈ B, b < 256) : B.getD i 0 < 256 := by
  rw [List.getD_eq_getElem?_getD]
  cases h : B[i]? with
  | none => simp
  | some b => exact hB b (List.mem_of_getElem? h)

end Go.Proofs.Ytlbnjclchmnomaa

namespace Go.Proofs.Ytlbnjclchmnomaa
open Go.RowKit Bx

theorem and7_neg (c : Nat) (h : c < 4611686018427387904) : bits .and .i64 (-(c : Int)) 7 = (((8 - c % 8) % 8 : Nat) : Int) := by
  have e1 : ((BitVec.ofInt 64 (-(c : Int))) &&& (BitVec.ofInt 64 7)).toNat = (8 - c % 8) % 8 := by
    rw [BitVec.toNat_and, BitVec.toNat_ofInt, BitVec.toNat_ofInt]
    have e2 : ((7 : Int) % ((2 ^ 64 : Nat) : Int)).toNat = 2 ^ 3 - 1 := by decide
    rw [e2, Nat.and_two_pow_sub_one_eq_mod]
    omega
  show IntKind.i64.wrap (((BitVec.ofInt 64 (-(c : Int)) &&& BitVec.ofInt 64 7).toNat : Nat) : Int) = _
  rw [e1, IntKind.wrap_i64]
  omega

theorem and_low (b n : Nat) (hb : b < 256) (h1 : 1 ≤ n) (h2 : n ≤ 8) : bits .and .u8 (b : Int) (255 / 2 ^ (8 - n)) = ((b % 2 ^ n : Nat) : Int) := by
  have e1 : (255 : Int) / 2 ^ (8 - n) = ((2 ^ n - 1 : Nat) : Int) := by
    have : n = 1 ∨ n = 2 ∨ n = 3 ∨ n = 4 ∨ n = 5 ∨ n = 6 ∨ n = 7 ∨ n = 8 := by omega
    rcases this with rfl | rfl | rfl | rfl | rfl | rfl | rfl | rfl <;> decide
  have e2 : 2 ^ n ≤ 2 ^ 8 := Nat.pow_le_pow_right (by decide) h2
  rw [e1, u8_and_nat b (2 ^ n - 1) hb (by omega), Nat.and_two_pow_sub_one_eq_mod]

set_option maxHeartbeats 400000 in
theorem held_any (n : Int) (w : World) : Calls Try.prog 60 #[.int .i64 n] w fun e w' => e = .returned (.int .i64 (wid n : Nat)) ∧ w = w' := by
  have hw : (wid n : Int) = max 0 (min n 64) := by unfold wid; omega
  have HW := Lib.hid hw
  clear hw
  go_enter Try.func60, Try.ntmps60
  go_wp2
  all_goals
    go_ret
    exact ⟨ret_int (by rw [HW.out]; omega), rfl⟩

set_option maxHeartbeats 400000 in
theorem toByte_any (c : Nat) (w : World) (h1 : c < 4611686018427387904) : Calls Try.prog 61 #[.int .i64 (c : Int)] w fun e w' => e = .returned (.int .i64 (((8 - c % 8) % 8 : Nat) : Int)) ∧ w = w' := by
  go_enter Try.func61, Try.ntmps61
  go_wp2
  go_ret
  refine ⟨?_, rfl⟩
  rw [← and7_neg c h1]
  rfl

set_option maxHeartbeats 400000 in
theorem lowest_any (b n : Nat) (w : World) (h1 : b < 256) (h2 : 1 ≤ n) (h3 : n ≤ 8) : Calls Try.prog 62 #[.int .u8 (b : Int), .int .i64 (n : Int)] w fun e w' => e = .returned (.int .u8 ((b % 2 ^ n : Nat) : Int)) ∧ w = w' := by
  go_enter Try.func62, Try.ntmps62
  go_wp2
  go_ret
  refine ⟨?_, rfl⟩
  rw [← and_low b n h1 h2 h3]
  rfl
end Go.Proofs.Ytlbnjclchmnomaa
