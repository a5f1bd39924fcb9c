/- Slices of integers, more: literals, Ints of equal ones, b[k:], b[:k]; the reference's Near. -/
import Derived.Test.YtliggpidkdiinaaFixRes
namespace Go.Proofs.Ytliggpidkdiinaa
open Go.RowKit Bx

theorem lit_row (w : World) (zs : List Int) (n : Nat) (hn : zs.length = n) (hm : n ≤ maxLen) : (w.alloc (.cells (ivs zs).toArray 3)).ownsRow w.heap.size 3 1 (.slice (some ⟨w.heap.size, 0, none⟩) n n) n (ivs zs) := by
  have h := World.ownsRow_lit (base := w.heap.size) (e := 3) (size := 1) w (ivs zs).toArray n (Nat.le_refl _) hm (by simp [ivs, hn])
  simpa using h

/-- Are all numbers from -2^40 to 2^40? -/
def near (zs : List Int) : Bool := zs.all (fun n => decide (-1099511627776 ≤ n) && decide (n ≤ 1099511627776))

theorem near_bd {zs : List Int} (h : near zs = true) : Bd 1099511627776 zs := by
  apply bd_of_mem
  intro n hn
  have := List.all_eq_true.1 h n hn
  simp only [Bool.and_eq_true, decide_eq_true_eq] at this
  exact this

theorem bd_near {zs : List Int} (h : Bd 1099511627776 zs) : near zs = true := by
  apply List.all_eq_true.2
  intro n hn
  have := h.mem n hn
  simp only [Bool.and_eq_true, decide_eq_true_eq]
  exact this

theorem near_not {zs : List Int} {i : Nat} (hi : i < zs.length) (h : zs.getD i 0 < -1099511627776 ∨ 1099511627776 < zs.getD i 0) : near zs = false := by
  cases hn : near zs with
  | false => rfl
  | true =>
    have := near_bd hn i hi
    omega

theorem near_step {zs : List Int} {i : Nat} (h : near (zs.take i) = true) (hi : i < zs.length) (h1 : ¬ zs.getD i 0 < -1099511627776) (h2 : ¬ 1099511627776 < zs.getD i 0) : near (zs.take (i + 1)) = true := by
  rw [List.take_succ_eq_append_getElem hi]
  simp only [List.getD_eq_getElem?_getD, List.getElem?_eq_getElem hi, Option.getD_some] at h1 h2
  unfold near at h ⊢
  rw [List.all_append, h]
  simp
  omega

def NearInv (v : Value) (zs : List Int) (w : World) (a : Act) (w' : World) : Prop :=
  a.defers = [] ∧ a.tmps.size = 22 ∧ a.tmps[0]? = some v ∧ ∃ i : Nat, i ≤ zs.length ∧ a.tmps[3]? = some (.int .i64 (i : Int)) ∧ near (zs.take i) = true ∧ w' = w

theorem sl_lit (w : World) (zs : List Int) (n : Nat) (hn : zs.length = n) (hm : n ≤ maxLen) : Sl (w.alloc (.cells (ivs zs).toArray 3)) (.slice (some ⟨w.heap.size, 0, none⟩) n n) (ivs zs) := sl_alloc w (ivs zs) 3 n (by rw [ivs_length]; exact hn) hm

theorem elem_ints : Try.prog.elem 22 = 3 := by kernel_rfl

theorem size_int (w : World) : (sizeOf 3).run Try.prog w = .ok 1 w := by
  obtain ⟨i, hi, hz, hsize, hby⟩ := info_parts info_int
  simp [sizeOf, typeInfo, hi, hsize]

/-- A slice of integers from k on. -/
theorem run_from_i (w : World) (ao : Option Addr) (len cap k : Nat) (h : k ≤ len) : (Instr.slice 22 (.slice ao len cap) (some (.int .i64 (k : Int))) none none).run Try.prog w = .ok (.slice (if cap = k then ao else ao.map (fun x => x.add k)) (len - k) (cap - k)) w := by
  have ht : Try.prog.underlying 22 = some (.slice (Try.prog.elem 22)) := by rw [elem_ints]; exact Try.underlying22
  rw [run_slice_l w 22 ao len cap ht .i64 (k : Int) (by omega) (by omega), elem_ints, size_int]
  simp [sliced]

theorem run_from_i_at (w : World) (ao : Option Addr) (len cap k : Nat) (h : k ≤ len) : (Instr.sliceAt 22 (.slice ao len cap) (some (.int .i64 (k : Int))) none none).run Try.prog w = .ok (.slice (if cap = k then ao else ao.map (fun x => x.add k)) (len - k) (cap - k)) w := by
  have ht : Try.prog.underlying 22 = some (.slice (Try.prog.elem 22)) := by rw [elem_ints]; exact Try.underlying22
  rw [run_sliceAt_slice w 22 _ _ _ _ ht, run_from_i w ao len cap k h]

/-- A slice of integers up to k. -/
theorem run_upto_i (w : World) (ao : Option Addr) (len cap k : Nat) (h : k ≤ cap) : (Instr.slice 22 (.slice ao len cap) none (some (.int .i64 (k : Int))) none).run Try.prog w = .ok (.slice ao k cap) w := by
  have ht : Try.prog.underlying 22 = some (.slice (Try.prog.elem 22)) := by rw [elem_ints]; exact Try.underlying22
  rw [run_slice_h w 22 ao len cap ht .i64 (k : Int) (by omega) (by omega), elem_ints, size_int]
  cases ao with
  | none => simp [sliced]
  | some a => simp [sliced, Addr.add]

theorem run_upto_i_at (w : World) (ao : Option Addr) (len cap k : Nat) (h : k ≤ cap) : (Instr.sliceAt 22 (.slice ao len cap) none (some (.int .i64 (k : Int))) none).run Try.prog w = .ok (.slice ao k cap) w := by
  have ht : Try.prog.underlying 22 = some (.slice (Try.prog.elem 22)) := by rw [elem_ints]; exact Try.underlying22
  rw [run_sliceAt_slice w 22 _ _ _ _ ht, run_upto_i w ao len cap k h]

theorem sl_take_i {w : World} {ao : Option Addr} {len cap : Nat} {zs : List Int} (h : Sl w (.slice ao len cap) (ivs zs)) (k : Nat) (hk : k ≤ len) : Sl w (.slice ao k cap) (ivs (zs.take k)) := by
  rw [← ivs_take]
  exact h.take k hk

theorem sl_ivs {w : World} {v : Value} {zs : List Int} (h : Sl w v (zs.map (Value.int .i64))) : Sl w v (ivs zs) := h

end Go.Proofs.Ytliggpidkdiinaa
