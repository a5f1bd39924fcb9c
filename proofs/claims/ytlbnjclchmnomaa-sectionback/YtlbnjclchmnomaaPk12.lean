/- Slices of integers, more: literals, Ints of equal ones, b[k:], b[:k]; the reference's Near. A slice of integers that is filled place by place; cells that are kept; b[k:]. The library's slices.Repeat of one number, so many times as a power of 2. -/
import Derived.Test.YtlbnjclchmnomaaPk11
import Derived.Test.YtlbnjclchmnomaaPk9
import Derived.Laws.CopyOwn
import Derived.Deep.RegionLaw

namespace Go.Proofs.Ytlbnjclchmnomaa
open Go.RowKit Bx

theorem lit_row (w : World) (zs : List Int) (n : Nat) (hn : zs.length = n) (hm : n ≤ maxLen) : (w.alloc (.cells (ivs zs).toArray 3)).ownsRow w.heap.size 3 1 (.slice (some ⟨w.heap.size, 0, none⟩) n n) n (ivs zs) := by
  have h := World.ownsRow_lit (base := w.heap.size) (e := 3) (size := 1) w (ivs zs).toArray n (Nat.le_refl _) hm (by simp [ivs, hn])
  simpa using h

/-- Are all numbers from -2^40 to 2^40? -/
def near (zs : List Int) : Bool := zs.all (fun n => decide (-1099511627776 ≤ n) && decide (n ≤ 1099511627776))

theorem near_bd {zs : List Int} (h : near zs = true) : Bd 1099511627776 zs := by
  apply bd_of_mem
  intro n hn
  have := List.all_eq_true.1 h n hn
  simp only [Bool.and_eq_true, decide_eq_true_eq] at this
  exact this

theorem bd_near {zs : List Int} (h : Bd 1099511627776 zs) : near zs = true := by
  apply List.all_eq_true.2
  intro n hn
  have := h.mem n hn
  simp only [Bool.and_eq_true, decide_eq_true_eq]
  exact this

theorem near_not {zs : List Int} {i : Nat} (hi : i < zs.length) (h : zs.getD i 0 < -1099511627776 ∨ 1099511627776 < zs.getD i 0) : near zs = false := by
  cases hn : near zs with
  | false => rfl
  | true =>
    have := near_bd hn i hi
    omega

theorem near_step {zs : List Int} {i : Nat} (h : near (zs.take i) = true) (hi : i < zs.length) (h1 : ¬ zs.getD i 0 < -1099511627776) (h2 : ¬ 1099511627776 < zs.getD i 0) : near (zs.take (i + 1)) = true := by
  rw [List.take_succ_eq_append_getElem hi]
  simp only [List.getD_eq_getElem?_getD, List.getElem?_eq_getElem hi, Option.getD_some] at h1 h2
  unfold near at h ⊢
  rw [List.all_append, h]
  simp
  omega

def NearInv (v : Value) (zs : List Int) (w : World) (a : Act) (w' : World) : Prop :=
  a.defers = [] ∧ a.tmps.size = 22 ∧ a.tmps[0]? = some v ∧ ∃ i : Nat, i ≤ zs.length ∧ a.tmps[3]? = some (.int .i64 (i : Int)) ∧ near (zs.take i) = true ∧ w' = w

theorem sl_lit (w : World) (zs : List Int) (n : Nat) (hn : zs.length = n) (hm : n ≤ maxLen) : Sl (w.alloc (.cells (ivs zs).toArray 3)) (.slice (some ⟨w.heap.size, 0, none⟩) n n) (ivs zs) := sl_alloc w (ivs zs) 3 n (by rw [ivs_length]; exact hn) hm

/-- The reference's Ints, of two rows of the call's own. -/
theorem ints_row {va vb : Value} {A B : List Int} {w : World} {n m : Nat} {b b' : Nat} (ha : w.ownsRow b 3 1 va n (ivs A)) (hb : w.ownsRow b' 3 1 vb m (ivs B)) (hl : A.length < 1099511627776) :
    Calls Try.prog 15 #[va, vb] w fun e w' => e = .returned (.bool (decide (A = B))) ∧ ∃ n, w' = w.drewN n := ints_any va vb A B w (sl_of_owns ha) (sl_of_owns hb) hl

/-- The same numbers in both. -/
theorem ints_eq {va vb : Value} {A B : List Int} {w : World} (ha : Sl w va (ivs A)) (hb : Sl w vb (ivs B)) (hl : A.length < 1099511627776) (h : A = B) :
    Calls Try.prog 15 #[va, vb] w fun e w' => e = .returned (.bool true) ∧ ∃ n, w' = w.drewN n := by
  refine (ints_any va vb A B w ha hb hl).mono ?_
  rintro e w' ⟨rfl, hn⟩
  exact ⟨by rw [decide_eq_true h], hn⟩

theorem elem_ints : Try.prog.elem 22 = 3 := by kernel_rfl

theorem size_int (w : World) : (sizeOf 3).run Try.prog w = .ok 1 w := by
  obtain ⟨i, hi, hz, hsize, hby⟩ := info_parts info_int
  simp [sizeOf, typeInfo, hi, hsize]

/-- A slice of integers from k on. -/
theorem run_from_i (w : World) (ao : Option Addr) (len cap k : Nat) (h : k ≤ len) : (Instr.slice 22 (.slice ao len cap) (some (.int .i64 (k : Int))) none none).run Try.prog w = .ok (.slice (if cap = k then ao else ao.map (fun x => x.add k)) (len - k) (cap - k)) w := by
  have ht : Try.prog.underlying 22 = some (.slice (Try.prog.elem 22)) := by rw [elem_ints]; exact Try.underlying22
  rw [run_slice_l w 22 ao len cap ht .i64 (k : Int) (by omega) (by omega), elem_ints, size_int]
  simp [sliced]

theorem run_from_i_at (w : World) (ao : Option Addr) (len cap k : Nat) (h : k ≤ len) : (Instr.sliceAt 22 (.slice ao len cap) (some (.int .i64 (k : Int))) none none).run Try.prog w = .ok (.slice (if cap = k then ao else ao.map (fun x => x.add k)) (len - k) (cap - k)) w := by
  have ht : Try.prog.underlying 22 = some (.slice (Try.prog.elem 22)) := by rw [elem_ints]; exact Try.underlying22
  rw [run_sliceAt_slice w 22 _ _ _ _ ht, run_from_i w ao len cap k h]

/-- A slice of integers up to k. -/
theorem run_upto_i (w : World) (ao : Option Addr) (len cap k : Nat) (h : k ≤ cap) : (Instr.slice 22 (.slice ao len cap) none (some (.int .i64 (k : Int))) none).run Try.prog w = .ok (.slice ao k cap) w := by
  have ht : Try.prog.underlying 22 = some (.slice (Try.prog.elem 22)) := by rw [elem_ints]; exact Try.underlying22
  rw [run_slice_h w 22 ao len cap ht .i64 (k : Int) (by omega) (by omega), elem_ints, size_int]
  cases ao with
  | none => simp [sliced]
  | some a => simp [sliced, Addr.add]

theorem run_upto_i_at (w : World) (ao : Option Addr) (len cap k : Nat) (h : k ≤ cap) : (Instr.sliceAt 22 (.slice ao len cap) none (some (.int .i64 (k : Int))) none).run Try.prog w = .ok (.slice ao k cap) w := by
  have ht : Try.prog.underlying 22 = some (.slice (Try.prog.elem 22)) := by rw [elem_ints]; exact Try.underlying22
  rw [run_sliceAt_slice w 22 _ _ _ _ ht, run_upto_i w ao len cap k h]

theorem sl_take_i {w : World} {ao : Option Addr} {len cap : Nat} {zs : List Int} (h : Sl w (.slice ao len cap) (ivs zs)) (k : Nat) (hk : k ≤ len) : Sl w (.slice ao k cap) (ivs (zs.take k)) := by
  rw [← ivs_take]
  exact h.take k hk

theorem sl_ivs {w : World} {v : Value} {zs : List Int} (h : Sl w v (zs.map (Value.int .i64))) : Sl w v (ivs zs) := h

end Go.Proofs.Ytlbnjclchmnomaa

namespace Go.Proofs.Ytlbnjclchmnomaa
open Go.RowKit Bx

/-- The list L, its first i laid, the rest 0. -/
def fill (L : List Int) (i : Nat) : List Int := L.take i ++ List.replicate (L.length - i) 0

theorem fill_zero (L : List Int) : fill L 0 = List.replicate L.length 0 := by simp [fill]

theorem fill_last (L : List Int) : fill L L.length = L := by simp [fill]

theorem fill_length (L : List Int) (i : Nat) (h : i ≤ L.length) : (fill L i).length = L.length := by simp [fill]; omega

theorem fill_set (L : List Int) (i : Nat) (h : i < L.length) : (fill L i).set i (L.getD i 0) = fill L (i + 1) := by
  unfold fill
  obtain ⟨k, hk⟩ : ∃ k, L.length - i = k + 1 := ⟨L.length - i - 1, by omega⟩
  have hk2 : L.length - (i + 1) = k := by omega
  rw [hk, hk2, List.replicate_succ, List.set_append_right _ _ (by rw [List.length_take]; exact Nat.min_le_left _ _), List.take_succ_eq_append_getElem h]
  rw [List.length_take, Nat.min_eq_left (Nat.le_of_lt h), Nat.sub_self, List.set_cons_zero, List.append_assoc]
  simp [List.getD, h]

theorem lit_base (w : World) (base : Nat) (hb : base ≤ w.heap.size) (zs : List Int) (n : Nat) (hn : zs.length = n) (hm : n ≤ maxLen) : (w.alloc (.cells (ivs zs).toArray 3)).ownsRow base 3 1 (.slice (some ⟨w.heap.size, 0, none⟩) n n) n (ivs zs) := by
  have h := World.ownsRow_lit (base := base) (e := 3) (size := 1) w (ivs zs).toArray n hb hm (by simp [ivs, hn])
  simpa using h

theorem fill_cell {w : World} {base g m i : Nat} {L : List Int} (h : w.ownsRow base 3 1 (.slice (some ⟨g, 0, none⟩) m m) m (ivs (fill L i))) (hL : L.length = m) (hi : i < m) : ∃ z, w.cell? ⟨g, i, none⟩ = some z := by
  have e := fill_length L i (by omega)
  exact ⟨_, (h.cellAt i (by omega)).trans (ivs_get _ _ (by omega))⟩

/-- The cell of a slice's number, in any world that kept it. -/
theorem cell_kept {w : World} {ao : Option Addr} {cap : Nat} {zs : List Int} {m : Nat} (hs : Sl w (.slice ao m cap) (ivs zs)) (i : Nat) (hi : i < zs.length) : ∃ b off, ao = some ⟨b, off, none⟩ ∧ ∀ w', Kept Nix w w' → w'.cell? ⟨b, off + i, none⟩ = some (.int .i64 (zs.getD i 0)) := by
  obtain ⟨ao', cap', e, _, _, hp⟩ := hs.ints
  simp only [Value.slice.injEq] at e
  obtain ⟨rfl, -, -⟩ := e
  obtain ⟨b, off, e1, hb, hc⟩ := hp (by omega)
  exact ⟨b, off, e1, fun w' hk' => (World.cell?_of_block (hk'.block _ hb id)).trans (hc i hi)⟩

theorem bd_take {M : Int} {x : List Int} (h : Bd M x) (k : Nat) : Bd M (x.take k) := by
  apply bd_of_mem
  intro n hn
  exact h.mem n (List.mem_of_mem_take hn)

theorem bd_drop {M : Int} {x : List Int} (h : Bd M x) (k : Nat) : Bd M (x.drop k) := by
  apply bd_of_mem
  intro n hn
  exact h.mem n (List.mem_of_mem_drop hn)

theorem sl_drop_i {w : World} {ao : Option Addr} {len cap : Nat} {zs : List Int} (h : Sl w (.slice ao len cap) (ivs zs)) (k : Nat) (hk : k ≤ len) : Sl w (.slice (if cap = k then ao else ao.map (fun x => x.add k)) (len - k) (cap - k)) (ivs (zs.drop k)) := by
  have e : ivs (zs.drop k) = (ivs zs).drop k := by simp [ivs]
  rw [e]
  exact h.drop k hk

theorem src_row {w w' : World} {base n : Nat} {ao : Option Addr} {cap : Nat} {zs : List Int} (h : w.ownsRow base 3 1 (.slice ao n cap) n (ivs zs)) (hk : Kept Nix w w') : SrcIs w' 1 ao n cap (ivs zs) := by
  obtain ⟨ao', c', e, hs⟩ := src_of_sl ((sl_of_owns h).nix hk) (ivs_one _)
  simp only [Value.slice.injEq] at e
  obtain ⟨rfl, rfl, rfl⟩ := e
  exact hs

end Go.Proofs.Ytlbnjclchmnomaa

namespace Go.Proofs.Ytlbnjclchmnomaa
open Go.RowKit Bx

theorem size_i : (Try.prog.info? 3).map (·.size) = some 1 := by kernel_rfl

theorem u64_small (n : Nat) (h : n < 18446744073709551616) : IntKind.u64.wrap (n : Int) = (n : Int) := by
  exact IntWalk.u64_in _ (by omega)

set_option maxHeartbeats 400000 in
theorem mul64_any (o : Nat) (ho : o ≤ 15) (w : World) : Calls Try.prog 73 #[.int .u64 1, .int .u64 ((2 ^ o : Nat) : Int)] w fun e w' => e = .returned (.tuple #[.int .u64 0, .int .u64 ((2 ^ o : Nat) : Int)]) ∧ w' = w := by
  have key : ∀ o, o ∈ List.range 16 → Calls Try.prog 73 #[.int .u64 1, .int .u64 ((2 ^ o : Nat) : Int)] w fun e w' => e = .returned (.tuple #[.int .u64 0, .int .u64 ((2 ^ o : Nat) : Int)]) ∧ w' = w := by
    intro o ho
    simp only [List.range, List.range.loop, List.mem_cons, List.not_mem_nil, or_false] at ho
    rcases ho with rfl | rfl | rfl | rfl | rfl | rfl | rfl | rfl | rfl | rfl | rfl | rfl | rfl | rfl | rfl | rfl
    all_goals
      go_enter Try.func73, Try.ntmps73
      go_wp2
      go_ret2
      exact ⟨rfl, rfl⟩
  exact key o (List.mem_range.2 (by omega))

theorem mul_any (o : Nat) (ho : o ≤ 15) (w : World) : Calls Try.prog 59 #[.int .u64 1, .int .u64 ((2 ^ o : Nat) : Int)] w fun e w' => e = .returned (.tuple #[.int .u64 0, .int .u64 ((2 ^ o : Nat) : Int)]) ∧ w' = w := by
  have M := Lib.hid (mul64_any o ho w)
  generalize ((2 ^ o : Nat) : Int) = n at *
  clear ho
  go_enter Try.func59, Try.ntmps59
  go_wp2_with (go_at_call 73; refine M.out.mono ?_; rintro e w2 ⟨rfl, rfl⟩; clear M)
  go_ret2
  exact ⟨rfl, rfl⟩

/-- Filled so far. -/
def rpt (a : Int) (n m : Nat) : List Int := List.replicate m a ++ List.replicate (n - m) 0

theorem rpt_length (a : Int) {n m : Nat} (h : m ≤ n) : (rpt a n m).length = n := by simp [rpt]; omega
theorem rpt_splice (a : Int) {n m c : Nat} (h : m + c ≤ n) : splice (ivs (rpt a n m)) m (ivs (List.replicate c a)) = ivs (rpt a n (m + c)) := by
  unfold splice rpt ivs
  rw [← List.map_take, ← List.map_drop, ← List.map_append, ← List.map_append]
  congr 1
  rw [List.take_append_of_le_length (by simp), List.length_map, List.length_replicate, List.drop_append, List.drop_replicate, List.take_replicate, List.length_replicate, List.drop_replicate]
  rw [show m - (m + c) = 0 by omega, List.replicate_zero, List.nil_append, Nat.min_self, ← List.append_assoc, List.replicate_append_replicate]
  congr 2
  omega
theorem rpt_get (a : Int) {n m j : Nat} (h : j < m) : (rpt a n m).getD j 0 = a := by
  unfold rpt
  simp [List.getD, List.getElem?_append_left, h]

theorem rpt_cells {w : World} {g n m c : Nat} {a : Int} (h : w.heap[g]? = some (.cells (ivs (rpt a n m)).toArray 3 (0, 0))) (hm : m ≤ n) (hc : c ≤ m) : ∀ j v, (ivs (List.replicate c a))[j]? = some v → w.cell? ((⟨g, 0, none⟩ : Addr).add j) = some v := by
  intro j v hv
  have hj : j < c := by
    have := (List.getElem?_eq_some_iff.1 hv).1
    simpa [ivs] using this
  rw [Addr.add_lit, cell_of h, Nat.zero_add, List.getElem?_toArray]
  have e : (ivs (rpt a n m))[j]? = some (.int .i64 a) := by
    rw [ivs_get _ _ (by rw [rpt_length a hm]; omega), rpt_get a (by omega)]
  rw [e]
  unfold ivs at hv
  rw [List.getElem?_map, List.getElem?_replicate, if_pos hj] at hv
  exact hv

def RepInv (g n : Nat) (a : Int) (w : World) (f : Act) (w' : World) : Prop :=
  f.defers = [] ∧ f.tmps.size = 48 ∧ f.tmps[7]? = some (.slice (some ⟨g, 0, none⟩) n n) ∧ ∃ m : Nat, 1 ≤ m ∧ m ≤ n ∧ f.tmps[8]? = some (.int .i64 (m : Int)) ∧ Hid (w'.heap[g]? = some (.cells (ivs (rpt a n m)).toArray 3 (0, 0))) ∧ Kept Nix w w'

theorem below_new {w w1 w2 : World} (h : Kept Nix w w1) (hb : Below w.heap.size w1 w2) : Kept Nix w w2 :=
  h.trans (S' := fun k => w.heap.size ≤ k) ⟨hb.os, hb.tape, hb.output, hb.size, fun k _ hk => hb.block k (by omega)⟩ (fun _ h => h) (fun j hj e => by omega)

set_option maxRecDepth 10000 in
set_option maxHeartbeats 1000000 in
theorem rep_any (a : Int) (v : Value) (o : Nat) (ho : o ≤ 15) (w : World) (hs : Sl w v (ivs [a])) :
    Calls Try.prog 43 #[v, .int .i64 ((2 ^ o : Nat) : Int)] w fun e w' => ∃ g, e = .returned (.slice (some ⟨g, 0, none⟩) (2 ^ o) (2 ^ o)) ∧ w.heap.size ≤ g ∧ w'.heap[g]? = some (.cells (ivs (List.replicate (2 ^ o) a)).toArray 3 (0, 0)) ∧ Kept Nix w w' := by
  have MU := Lib.hid (mul_any o ho w)
  have hp := Nat.two_pow_pos o
  have hp2 : 2 ^ o ≤ 32768 := Nat.pow_le_pow_right (n := 2) (by decide) ho
  generalize 2 ^ o = n at *
  obtain ⟨ao, ca, rfl, hca, hcm, hp3⟩ := hs.ints
  obtain ⟨b, off, rfl, hb, hcell⟩ := hp3 (Nat.succ_pos _)
  have C0 := hcell 0 (Nat.succ_pos _)
  simp only [List.length_cons, List.length_nil, Nat.zero_add] at hca ⊢
  have t0 : decide ((n : Int) < 0) = false := decide_eq_false (by omega)
  have t1 : decide ((0 : Int) < 0) = false := rfl
  have t2 : decide ((9223372036854775807 : Int) < (n : Int)) = false := decide_eq_false (by omega)
  have hw : wrap64 (n : Int) = (n : Int) := w64_in _ (by omega)
  have e1 : IntKind.u64.wrap (n : Int) = (n : Int) := u64_small n (by omega)
  have hmk := make_int n (by omega) w
  have HP := Lib.hid hp
  have HP2 := Lib.hid hp2
  clear ho hs hp3 hcell hp hp2 hca hcm
  go_enter Try.func43, Try.ntmps43
  go_upto_region 7 with (go_at_call 59; refine MU.out.mono ?_; rintro e w2 ⟨rfl, rfl⟩; clear MU)
  have h1 : (w2.alloc (.cells (ivs (List.replicate n 0)).toArray 3)).heap[w2.heap.size]? = some (.cells (ivs (rpt a n 0)).toArray 3 (0, 0)) := by
    rw [show rpt a n 0 = List.replicate n 0 by simp [rpt]]
    exact heap_alloc_new _ _
  have H1 := Lib.hid h1
  have K1 := Lib.hid (show Kept Nix w2 (w2.alloc (.cells (ivs (List.replicate n 0)).toArray 3)) from (Kept.refl _ _).alloc _)
  have SRC := Lib.hid (show ∀ j x, (ivs [a])[j]? = some x → (w2.alloc (.cells (ivs (List.replicate n 0)).toArray 3)).cell? ((⟨b, off, none⟩ : Addr).add j) = some x from fun j x hx => by
    have hj := (List.getElem?_eq_some_iff.1 hx).1
    simp [ivs] at hj
    subst hj
    rw [Addr.add_lit, World.cell?_of_block (K1.out.block b hb id)]
    rw [show (ivs [a])[0]? = some (.int .i64 a) from rfl] at hx
    rw [← hx]
    exact C0)
  have SPL := Lib.hid (show splice (ivs (rpt a n 0)) 0 (ivs [a]) = ivs (rpt a n 1) from rpt_splice a (n := n) (m := 0) (c := 1) (by have := HP.out; omega))
  generalize w2.alloc (.cells (ivs (List.replicate n 0)).toArray 3) = w3 at *
  have HG := Lib.hid (show w2.heap.size ≤ w2.heap.size from Nat.le_refl _)
  generalize hgg : w2.heap.size = g at *
  clear h1 hmk C0 t0 t1 t2 hb
  have SPL2 := Lib.hid (show (ivs (rpt a n 0)).length = n by rw [ivs_length, rpt_length a (Nat.zero_le _)])
  have MIN := Lib.hid (show (ivs [a]).length = Nat.min 1 n from (Nat.min_eq_left HP.out).symm)
  have FIT := Lib.hid (show 0 + (ivs [a]).length ≤ (ivs (rpt a n 0)).length by rw [SPL2.out]; have := HP.out; simp [ivs]; omega)
  have ONE := Lib.hid (ivs_one [a])
  have LEN : (ivs [a]).length = 1 := rfl
  generalize ivs [a] = cs at *
  generalize ivs (rpt a n 0) = cur at *
  go_wp2_with (refine wpList_copy_splice rfl _ _ _ _ rfl 3 Try.underlying22 size_i (some ⟨g, 0, none⟩) (some ⟨b, off, none⟩) n n 1 ca rfl rfl g 0 cur 3 H1.out cs MIN.out (fun _ => ⟨rfl, _, rfl, SRC.out⟩) FIT.out ONE.out g w3 (Below.refl _ _) HG.out ?_
               intro w4 h4 hb4; have H4 := Lib.hid h4.out; have B4 := Lib.hid hb4; clear h4 hb4; rw [LEN])
  refine wp_loop (RepInv g n a w2) (fun f _ => n - (intOf (f.tmps.getD 8 undef)).toNat) ?_ ?_
  · refine ⟨rfl, rfl, rfl, 1, Nat.le_refl _, HP.out, rfl, ?_, ?_⟩
    · exact Lib.hid (H4.out.trans (by rw [SPL.out]))
    · subst hgg
      exact below_new K1.out B4.out
  · clear H4 B4 SRC H1 K1 HG SPL SPL2 MIN FIT ONE LEN
    rintro ⟨tm, df⟩ w5 ⟨rfl, hs, e7, m, hm1, hm2, e8, h5, k5⟩
    simp only at hs e7 e8
    obtain ⟨f, hf, hg⟩ := fr_open hs
    have g7 := hg _ _ e7
    have g8 := hg _ _ e8
    simp only [List.range, List.range.loop, List.map] at hf
    rw [g7, g8] at hf
    clear g7 g8 hg hs e7 e8
    subst hf
    have H5 := Lib.hid h5.out
    have K5 := Lib.hid k5
    clear h5 k5
    by_cases hlt : m < n
    · have hd : decide (m < n) = true := decide_eq_true hlt
      have r1 : ∀ w, (Instr.slice 22 (.slice (some ⟨g, 0, none⟩) n n) (some (.int .i64 (m : Int))) none none).run Try.prog w = .ok (.slice (some ⟨g, m, none⟩) (n - m) (n - m)) w := fun w => by
        rw [run_from_i w _ n n m hm2, if_neg (by omega)]
        simp [Addr.add]
        omega
      have r2 : ∀ w, (Instr.slice 22 (.slice (some ⟨g, 0, none⟩) n n) none (some (.int .i64 (m : Int))) none).run Try.prog w = .ok (.slice (some ⟨g, 0, none⟩) m n) w := fun w => run_upto_i w _ n n m hm2
      obtain ⟨c, hc⟩ : ∃ c, Nat.min m (n - m) = c := ⟨_, rfl⟩
      have hc2 : c ≤ m ∧ m + c ≤ n ∧ 1 ≤ c := by
        have : c = min m (n - m) := hc.symm
        omega
      have LEN := Lib.hid (show (ivs (List.replicate c a)).length = c by simp [ivs])
      have MIN := Lib.hid (show (ivs (List.replicate c a)).length = Nat.min m (n - m) by rw [LEN.out, hc])
      have FIT := Lib.hid (show m + (ivs (List.replicate c a)).length ≤ (ivs (rpt a n m)).length by rw [LEN.out, ivs_length, rpt_length a hm2]; omega)
      have ONE := Lib.hid (ivs_one (List.replicate c a))
      have SPL := Lib.hid (rpt_splice a (n := n) (m := m) (c := c) hc2.2.1)
      have SRC := Lib.hid (rpt_cells (w := w5.drew) H5.out hm2 hc2.1)
      have HA := Lib.hid (show IntKind.i64.wrap ((m : Int) + (c : Int)) = ((m + c : Nat) : Int) by have := HP2.out; rw [IntWalk.i64_in _ (by omega)]; omega)
      have HM := Lib.hid (show m < m + c ∧ m + c ≤ n ∧ 1 ≤ m + c by omega)
      have H6 : Hid (w5.drew.heap[g]? = some (.cells (ivs (rpt a n m)).toArray 3 (0, 0))) := Lib.hid H5.out
      have BG := Lib.hid (show w2.heap.size ≤ g by omega)
      have HWD : Hid (∀ w', Below w2.heap.size w5.drew w' → Kept Nix w2 w') := Lib.hid (fun w' h => below_new K5.out.drew h)
      clear hm1 hm2 hlt hc hc2
      generalize ivs (List.replicate c a) = cs at *
      generalize ivs (rpt a n m) = cur at *
      go_upto_region 9 with fail
      go_region_law
        (first
          | (refine step_copy_splice rfl (.tmp 41) (.tmp 44) 22 22 rfl 3 Try.underlying22 size_i (some ⟨g, m, none⟩) (some ⟨g, 0, none⟩) (n - m) (n - m) m n (by kernel_rfl) (by kernel_rfl) g m cur 3 H6.out cs MIN.out (fun _ => ⟨rfl, _, rfl, SRC.out⟩) FIT.out ONE.out w2.heap.size w5.drew (Below.refl _ _) BG.out ?_; intro w6 h6 b6; rw [LEN.out, SPL.out] at *))
      all_goals
        have H7 := Lib.hid h6.out
        have K7 := Lib.hid (HWD.out _ b6)
        clear H6 HWD h6 b6 r1 r2
        go_wp2
        refine ⟨⟨rfl, rfl, rfl, m + c, HM.out.2.2, HM.out.2.1, ?_, H7, K7.out⟩, ?_⟩
        · rw [← HA.out]; rfl
        · show n - (intOf (.int .i64 (IntKind.i64.wrap ((m : Int) + (c : Int))))).toNat < n - (intOf (.int .i64 (m : Int))).toNat
          rw [HA.out]
          have := HM.out
          simp only [intOf, Int.toNat_natCast]
          omega
    · obtain rfl : m = n := by omega
      have hd : decide ((m : Int) < (m : Int)) = false := by simp
      clear hlt hm1 hm2
      go_wp2
      go_ret
      refine ⟨g, rfl, by rw [hgg]; exact Nat.le_refl _, ?_, K5.out⟩
      have := H5.out
      rwa [show rpt a m m = List.replicate m a by simp [rpt]] at this

end Go.Proofs.Ytlbnjclchmnomaa
