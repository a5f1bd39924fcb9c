/- What a law is told of its arguments: slices of integers and of bools, as lists, wherever they lie. What a law is told of a slice of slices of integers: as a list of slices, each a list of integers. Channels in memory: a slice of slices of integers, as a list of lists. No program. Slices of slices: b[:k], b[k:]; sources of appends; bytes of a constant text. -/
import Derived.Test.YtlbnjclchmnomaaPk2
import Derived.ProofKit
import Derived.Deep.Grids
import Derived.OpenShut
import Derived.Deep.Matrix

namespace Go.Proofs.Ytlbnjclchmnomaa
open Go.RowKit Go.ChangeShapes Go.WideShapes Go.ChangeAt

/-- A slice argument as a list of cells. -/
theorem sl_of_cells {W : World} {a : Addr} {len cap : Nat} (V : Nat → Value) (hl : len ≤ cap) (hm : cap ≤ maxLen) (hc : ∀ i, i < cap → W.cell? (a.add i) = some (V i)) :
    Sl W (.slice (some a) len cap) ((List.range len).map V) := by
  refine ⟨some a, cap, by simp, by simpa using hl, hm, fun h => by simp at h, fun h0 => ?_⟩
  simp only [List.length_map, List.length_range] at h0
  have h1 := hc 0 (by omega)
  obtain ⟨b, off, spot⟩ := a
  have hspot : spot = none := by simpa [Addr.add] using World.cell?_spot h1
  subst hspot
  refine ⟨b, off, rfl, ?_, fun j u hu => ?_⟩
  · have := World.block_lt_of_cell? W _ h1
    simpa [Addr.add] using this
  · have hj := (List.getElem?_eq_some_iff.1 hu).1
    simp only [List.length_map, List.length_range] at hj
    have h2 := hc j (by omega)
    rw [Addr.add_lit] at h2
    rw [h2]
    simp [hj] at hu
    rw [hu]

theorem arg_ints {H : Type} {enc : TypeId × Value → H} {P : Program} {W : World} {t e : TypeId} {k : IntKind} {a0 : Option Addr} {len0 cap0 : Nat} {d : DataW H} {p : List MemPlace}
    (ht : P.underlying t = some (.slice e)) (he : P.underlying e = some (.int k)) (hc : P.cellsOf e = 1) (h : DataW.Trod enc P W 0 (fun _ => true) true t (.slice a0 len0 cap0) d p) :
    ∃ zs : List Int, Sl W (.slice a0 len0 cap0) (zs.map (Value.int k)) ∧ ∀ n ∈ zs, (Lit.int k n).wf = true := by
  obtain ⟨fuel, hf⟩ := h
  rcases open_ints ht he hc hf with ⟨hcs, _⟩ | ⟨x, l, c, zs, hcs, _, hl, hm, hz, _, hcell, hwz⟩
  · simp [Value.cells] at hcs
    obtain ⟨rfl, rfl, rfl⟩ := hcs
    exact ⟨[], ⟨none, 0, rfl, Nat.le_refl _, by simp [maxLen], fun _ => rfl, fun h => by simp at h⟩, by simp⟩
  · simp [Value.cells] at hcs
    obtain ⟨rfl, rfl, rfl⟩ := hcs
    have hz' : zs.length = cap0 := by simpa using hz
    refine ⟨zs.take len0, ?_, fun n hn => hwz n (List.mem_of_mem_take hn)⟩
    have h1 := sl_of_cells (W := W) (a := x) (len := len0) (fun i => Value.int k (zs.getD i 0)) hl hm (fun i hi => hcell i (by omega))
    have e1 : (List.range len0).map (fun i => Value.int k (zs.getD i 0)) = (zs.take len0).map (Value.int k) := by
      apply List.ext_getElem
      · simp; omega
      · intro i h1 h2
        simp at h1 h2
        simp [List.getD, show i < zs.length by omega]
    rwa [e1] at h1

theorem arg_bools {H : Type} {enc : TypeId × Value → H} {P : Program} {W : World} {t e : TypeId} {a0 : Option Addr} {len0 cap0 : Nat} {d : DataW H} {p : List MemPlace}
    (ht : P.underlying t = some (.slice e)) (he : P.underlying e = some .bool) (hc : P.cellsOf e = 1) (h : DataW.Trod enc P W 0 (fun _ => true) true t (.slice a0 len0 cap0) d p) :
    ∃ bs : List Bool, Sl W (.slice a0 len0 cap0) (bs.map Value.bool) := by
  obtain ⟨fuel, hf⟩ := h
  rcases Deep.open_bools ht he hc hf with ⟨hcs, _⟩ | ⟨x, l, c, B, hcs, _, hl, hm, _, hcell⟩
  · simp [Value.cells] at hcs
    obtain ⟨rfl, rfl, rfl⟩ := hcs
    exact ⟨[], none, 0, rfl, Nat.le_refl _, by simp [maxLen], fun _ => rfl, fun h => by simp at h⟩
  · simp [Value.cells] at hcs
    obtain ⟨rfl, rfl, rfl⟩ := hcs
    refine ⟨(List.range len0).map B, ?_⟩
    have h1 := sl_of_cells (W := W) (a := x) (len := len0) (fun i => Value.bool (B i)) hl hm hcell
    rw [List.map_map]
    exact h1

/-- A slice of bytes that came in, as a list of numbers. -/
theorem Sl.nats {w : World} {v : Value} {zs : List Int} (h : Sl w v (zs.map (Value.int .u8))) (hw : ∀ n ∈ zs, (Lit.int .u8 n).wf = true) : ∃ B : List Nat, Sl w v (u8s B) ∧ (∀ b ∈ B, b < 256) ∧ B.length = zs.length := by
  have hr : ∀ n ∈ zs, 0 ≤ n ∧ n ≤ 255 := fun n hn => bounds_u8 (hw n hn)
  refine ⟨zs.map Int.toNat, ?_, ?_, by simp⟩
  · have e : u8s (zs.map Int.toNat) = zs.map (Value.int .u8) := by
      simp only [u8s, List.map_map]
      apply List.map_congr_left
      intro n hn
      have := hr n hn
      simp [Int.toNat_of_nonneg this.1]
    rwa [e]
  · intro b hb
    obtain ⟨n, hn, rfl⟩ := List.mem_map.1 hb
    have := hr n hn
    omega

theorem nat_u8 {a : Int} (h : (Lit.int .u8 a).wf = true) : ∃ n : Nat, a = (n : Int) ∧ n < 256 := by
  have := bounds_u8 h
  exact ⟨a.toNat, by omega, by omega⟩
theorem nat_u16 {a : Int} (h : (Lit.int .u16 a).wf = true) : ∃ n : Nat, a = (n : Int) ∧ n < 65536 := by
  have := bounds_u16 h
  exact ⟨a.toNat, by omega, by omega⟩

end Go.Proofs.Ytlbnjclchmnomaa

namespace Go.Proofs.Ytlbnjclchmnomaa
open Go.RowKit Go.ChangeShapes Go.WideShapes Go.ChangeAt

/-- A slice of slices as they are told to a walk. -/
def Rws (w : World) (v : Value) (k : IntKind) (vs : List Value) : Prop := Sl w v vs ∧ ∀ u ∈ vs, ∃ zs : List Int, Sl w u (zs.map (Value.int k)) ∧ ∀ n ∈ zs, (Lit.int k n).wf = true

theorem arg_rows {H : Type} {enc : TypeId × Value → H} {P : Program} {W : World} {t e q : TypeId} {k : IntKind} {a0 : Option Addr} {len0 cap0 : Nat} {d : DataW H} {p : List MemPlace}
    (ht : P.underlying t = some (.slice e)) (he : P.underlying e = some (.slice q)) (hq : P.underlying q = some (.int k)) (ce : P.cellsOf e = 1) (cq : P.cellsOf q = 1)
    (h : DataW.Trod enc P W 0 (fun _ => true) true t (.slice a0 len0 cap0) d p) : ∃ vs : List Value, Rws W (.slice a0 len0 cap0) k vs := by
  obtain ⟨fuel, hf⟩ := h
  rcases Deep.open_int_rows ht he hq ce cq hf with ⟨hcs, _⟩ | ⟨x, l, c, A, L, C, Z, hcs, _, hl, hm, _, hr⟩
  · simp [Value.cells] at hcs
    obtain ⟨rfl, rfl, rfl⟩ := hcs
    exact ⟨[], ⟨none, 0, rfl, Nat.le_refl _, by simp [maxLen], fun _ => rfl, fun h => by simp at h⟩, fun u hu => by simp at hu⟩
  · simp [Value.cells] at hcs
    obtain ⟨rfl, rfl, rfl⟩ := hcs
    refine ⟨(List.range len0).map (fun r => .slice (A r) (L r) (C r)), sl_of_cells (W := W) (a := x) (len := len0) _ hl hm (fun i hi => (hr i hi).1), ?_⟩
    intro u hu
    obtain ⟨r, hr', rfl⟩ := List.mem_map.1 hu
    have hrl : r < cap0 := Nat.lt_of_lt_of_le (List.mem_range.1 hr') hl
    obtain ⟨_, h1, h2, h3, h4, h5, h6⟩ := hr r hrl
    refine ⟨(Z r).take (L r), ?_, fun n hn => h4 n (List.mem_of_mem_take hn)⟩
    cases hA : A r with
    | none =>
      have hc0 := h5 hA
      have hl0 : L r = 0 := by omega
      rw [hl0, hc0]
      exact ⟨none, 0, by simp, by simp, by simp [maxLen], fun _ => rfl, fun h => by simp at h⟩
    | some a' =>
      have hcell := (h6 a' hA).2
      have hs := sl_of_cells (W := W) (a := a') (len := L r) (fun i => Value.int k ((Z r).getD i 0)) h1 h2 hcell
      have e1 : (List.range (L r)).map (fun i => Value.int k ((Z r).getD i 0)) = ((Z r).take (L r)).map (Value.int k) := by
        apply List.ext_getElem
        · simp; omega
        · intro i g1 g2
          simp at g1 g2
          simp [List.getD, show i < (Z r).length by omega]
      rwa [e1] at hs

end Go.Proofs.Ytlbnjclchmnomaa

namespace Go.Proofs.Ytlbnjclchmnomaa
open Go.RowKit

/-- A slice of slices of integers that reads as this list of lists, wherever it lies. -/
def Chs (w : World) (v : Value) (L : List (List Int)) : Prop :=
  ∃ vs : List Value, Sl w v vs ∧ vs.length = L.length ∧ ∀ i, i < L.length → ∃ u, vs[i]? = some u ∧ Sl w u ((L.getD i []).map (Value.int .i64))

theorem Chs.nix {w w' : World} {v : Value} {L : List (List Int)} (h : Chs w v L) (hk : Kept Nix w w') : Chs w' v L := by
  obtain ⟨vs, h1, h2, h3⟩ := h
  exact ⟨vs, h1.nix hk, h2, fun i hi => by obtain ⟨u, hu, hs⟩ := h3 i hi; exact ⟨u, hu, hs.nix hk⟩⟩

theorem chs_of_rws {w : World} {v : Value} {vs : List Value} (h : Rws w v .i64 vs) : ∃ L, Chs w v L ∧ ∀ c ∈ L, ∀ n ∈ c, (Lit.int .i64 n).wf = true := by
  obtain ⟨h1, h2⟩ := h
  have key : ∀ us : List Value, (∀ u ∈ us, ∃ zs : List Int, Sl w u (zs.map (Value.int .i64)) ∧ ∀ n ∈ zs, (Lit.int .i64 n).wf = true) →
      ∃ L : List (List Int), us.length = L.length ∧ (∀ i, i < L.length → ∃ u, us[i]? = some u ∧ Sl w u ((L.getD i []).map (Value.int .i64))) ∧ ∀ c ∈ L, ∀ n ∈ c, (Lit.int .i64 n).wf = true := by
    intro us
    induction us with
    | nil => exact fun _ => ⟨[], rfl, fun i hi => by simp at hi, by simp⟩
    | cons u us ih =>
      intro hu
      obtain ⟨zs, hz, hw⟩ := hu u (by simp)
      obtain ⟨L, hl, hr, hv⟩ := ih (fun x hx => hu x (List.mem_cons_of_mem _ hx))
      refine ⟨zs :: L, by simp [hl], fun i hi => ?_, ?_⟩
      · cases i with
        | zero => exact ⟨u, by simp, by simpa using hz⟩
        | succ i =>
          obtain ⟨x, hx, hs⟩ := hr i (by simpa using hi)
          exact ⟨x, by simpa using hx, by simpa using hs⟩
      · intro c hc
        rcases List.mem_cons.1 hc with rfl | hc
        · exact hw
        · exact hv c hc
  obtain ⟨L, hl, hr, hv⟩ := key vs h2
  exact ⟨L, ⟨vs, h1, hl, hr⟩, hv⟩

/-- Channels as the walk asks for them. -/
theorem Chs.open {w : World} {v : Value} {L : List (List Int)} (h : Chs w v L) : ∃ ao cap, v = .slice ao L.length cap ∧ L.length ≤ cap ∧ cap ≤ maxLen ∧
    (0 < L.length → ∃ b off, ao = some ⟨b, off, none⟩ ∧ b < w.heap.size ∧ ∃ (A : Nat → Option Addr) (C : Nat → Nat), ∀ i, i < L.length → w.cell? ⟨b, off + i, none⟩ = some (.slice (A i) (L.getD i []).length (C i)) ∧
      Sl w (.slice (A i) (L.getD i []).length (C i)) ((L.getD i []).map (Value.int .i64))) := by
  obtain ⟨vs, ⟨ao, cap, rfl, hc, hm, hno, hp⟩, h2, h3⟩ := h
  refine ⟨ao, cap, by rw [h2], by omega, hm, fun h0 => ?_⟩
  obtain ⟨b, off, rfl, hb, hh⟩ := hp (by omega)
  have hx : ∀ i, ∃ (x : Option Addr × Nat), i < L.length → w.cell? ⟨b, off + i, none⟩ = some (.slice x.1 (L.getD i []).length x.2) ∧ Sl w (.slice x.1 (L.getD i []).length x.2) ((L.getD i []).map (Value.int .i64)) := by
    intro i
    by_cases hi : i < L.length
    · obtain ⟨u, hu, hs⟩ := h3 i hi
      obtain ⟨ao', c', e, _⟩ := hs.ints
      refine ⟨(ao', c'), fun _ => ?_⟩
      subst e
      exact ⟨hh i _ hu, hs⟩
    · exact ⟨(none, 0), fun h => absurd h hi⟩
  obtain ⟨f, hf⟩ := Classical.axiomOfChoice hx
  exact ⟨b, off, rfl, hb, fun i => (f i).1, fun i => (f i).2, fun i hi => hf i hi⟩

theorem Chs.len {w : World} {ao : Option Addr} {n cap : Nat} {L : List (List Int)} (h : Chs w (.slice ao n cap) L) : n = L.length ∧ n ≤ cap ∧ cap ≤ maxLen := by
  obtain ⟨ao', c, e, h1, h2, _⟩ := h.open
  simp only [Value.slice.injEq] at e
  obtain ⟨_, rfl, rfl⟩ := e
  exact ⟨rfl, h1, h2⟩

/-- Where they lie, if there are some. -/
theorem Chs.at {w : World} {ao : Option Addr} {n cap : Nat} {L : List (List Int)} (h : Chs w (.slice ao n cap) L) (h0 : 0 < L.length) : ∃ b off, ao = some ⟨b, off, none⟩ ∧ b < w.heap.size ∧ ∃ (A : Nat → Option Addr) (C : Nat → Nat), ∀ i, i < L.length → w.cell? ⟨b, off + i, none⟩ = some (.slice (A i) (L.getD i []).length (C i)) ∧
      Sl w (.slice (A i) (L.getD i []).length (C i)) ((L.getD i []).map (Value.int .i64)) := by
  obtain ⟨ao', c, e, _, _, hp⟩ := h.open
  simp only [Value.slice.injEq] at e
  obtain ⟨rfl, rfl, rfl⟩ := e
  exact hp h0

theorem row_len {w : World} {u : Value} {L : List Int} (h : Sl w u (L.map (Value.int .i64))) : L.length ≤ maxLen := by
  obtain ⟨_, _, _, h1, h2, _⟩ := h.ints
  omega

theorem chs_nil (w : World) : Chs w (.slice none 0 0) [] := ⟨[], ⟨none, 0, rfl, Nat.le_refl _, by simp [maxLen], fun _ => rfl, fun h => by simp at h⟩, rfl, fun i hi => by simp at hi⟩

end Go.Proofs.Ytlbnjclchmnomaa

namespace Go.Proofs.Ytlbnjclchmnomaa
open Go.RowKit Bx

theorem u8s_take (B : List Nat) (k : Nat) : (u8s B).take k = u8s (B.take k) := by simp [u8s, List.map_take]
theorem u8s_drop (B : List Nat) (k : Nat) : (u8s B).drop k = u8s (B.drop k) := by simp [u8s, List.map_drop]

theorem Sl.cap {w : World} {ao : Option Addr} {len cap : Nat} {xs : List Value} (h : Sl w (.slice ao len cap) xs) : len ≤ cap ∧ cap ≤ maxLen := by
  obtain ⟨ao', c, e, hc, hm, _⟩ := h
  simp only [Value.slice.injEq] at e
  obtain ⟨rfl, rfl, rfl⟩ := e
  exact ⟨hc, hm⟩

theorem Sl.take {w : World} {ao : Option Addr} {len cap : Nat} {xs : List Value} (h : Sl w (.slice ao len cap) xs) (k : Nat) (hk : k ≤ len) : Sl w (.slice ao k cap) (xs.take k) := by
  obtain ⟨ao', c, e, hc, hm, hno, hp⟩ := h
  simp only [Value.slice.injEq] at e
  obtain ⟨rfl, rfl, rfl⟩ := e
  have hl : (xs.take k).length = k := by simp; omega
  refine ⟨ao, cap, by rw [hl], by omega, hm, hno, fun h0 => ?_⟩
  obtain ⟨b, off, e, hb, hh⟩ := hp (by omega)
  refine ⟨b, off, e, hb, fun j u hu => ?_⟩
  have hj := (List.getElem?_eq_some_iff.1 hu).1
  rw [hl] at hj
  rw [List.getElem?_take, if_pos hj] at hu
  exact hh j u hu

theorem Sl.drop {w : World} {ao : Option Addr} {len cap : Nat} {xs : List Value} (h : Sl w (.slice ao len cap) xs) (k : Nat) (hk : k ≤ len) : Sl w (.slice (if cap = k then ao else ao.map (fun x => x.add k)) (len - k) (cap - k)) (xs.drop k) := by
  obtain ⟨ao', c, e, hc, hm, hno, hp⟩ := h
  simp only [Value.slice.injEq] at e
  obtain ⟨rfl, rfl, rfl⟩ := e
  have hl : (xs.drop k).length = xs.length - k := by simp
  refine ⟨_, cap - k, by rw [hl], by omega, by omega, fun h => ?_, fun h0 => ?_⟩
  · split at h
    · omega
    · cases ao with
      | none => have := hno rfl; omega
      | some a => simp at h
  · obtain ⟨b, off, rfl, hb, hh⟩ := hp (by omega)
    rw [if_neg (by omega)]
    refine ⟨b, off + k, by simp [Addr.add_lit], hb, fun j u hu => ?_⟩
    rw [List.getElem?_drop] at hu
    have := hh (k + j) u hu
    rwa [Nat.add_assoc]

theorem elem_bytes : Try.prog.elem 26 = 5 := by kernel_rfl

theorem size_u8 (w : World) : (sizeOf 5).run Try.prog w = .ok 1 w := by
  obtain ⟨i, hi, hz, hsize, hby⟩ := info_parts info_u8
  simp [sizeOf, typeInfo, hi, hsize]

/-- A slice of bytes from k on. -/
theorem run_from (w : World) (ao : Option Addr) (len cap k : Nat) (h : k ≤ len) : (Instr.slice 26 (.slice ao len cap) (some (.int .i64 (k : Int))) none none).run Try.prog w = .ok (.slice (if cap = k then ao else ao.map (fun x => x.add k)) (len - k) (cap - k)) w := by
  have ht : Try.prog.underlying 26 = some (.slice (Try.prog.elem 26)) := by rw [elem_bytes]; exact Try.underlying26
  rw [run_slice_l w 26 ao len cap ht .i64 (k : Int) (by omega) (by omega), elem_bytes, size_u8]
  simp [sliced]

theorem run_from_at (w : World) (ao : Option Addr) (len cap k : Nat) (h : k ≤ len) : (Instr.sliceAt 26 (.slice ao len cap) (some (.int .i64 (k : Int))) none none).run Try.prog w = .ok (.slice (if cap = k then ao else ao.map (fun x => x.add k)) (len - k) (cap - k)) w := by
  have ht : Try.prog.underlying 26 = some (.slice (Try.prog.elem 26)) := by rw [elem_bytes]; exact Try.underlying26
  rw [run_sliceAt_slice w 26 _ _ _ _ ht, run_from w ao len cap k h]

theorem sl_nil (w : World) : Sl w (.slice none 0 0) (u8s []) := ⟨none, 0, rfl, Nat.le_refl _, by simp [maxLen], fun _ => rfl, fun h => by simp [u8s] at h⟩

theorem src_u8s {w : World} {ao : Option Addr} {n cap : Nat} {B : List Nat} (h : Sl w (.slice ao n cap) (u8s B)) : SrcIs w 1 ao n cap (u8s B) := by
  obtain ⟨ao', cap', e, hs⟩ := src_of_sl h (u8s_one B)
  simp only [Value.slice.injEq, u8s_length] at e
  obtain ⟨rfl, rfl, rfl⟩ := e
  rwa [u8s_length] at hs

/-- A new empty slice has grown: nothing that was there has turned. -/
theorem kept_new {w w1 : World} {o : Obj} (hg : (w.alloc o).grownBy w1 (Value.slice (some ⟨w.heap.size, 0, none⟩) 0 0).ownBlock) : Kept Nix w w1 :=
  ((Kept.refl _ w).alloc o).grown hg (fun k hk => .inr (by have hk' : some w.heap.size = some k := hk; simp only [Option.some.injEq] at hk'; omega))

/-- Two new cells at a new block. -/
theorem src_two (w : World) (x y : Value) (t : TypeId) (h1 : x.oneCell' = true) (h2 : y.oneCell' = true) : SrcIs (w.alloc (.cells #[x, y] t)) 1 (some ⟨w.heap.size, 0, none⟩) 2 2 [x, y] := by
  refine ⟨rfl, fun h => by simp at h, ?_, by simp [h1, h2]⟩
  rintro ad h j u hu
  obtain rfl := Option.some.inj h
  match j, hu with
  | 0, hu =>
    simp at hu
    subst hu
    simp [Addr.add]
  | 1, hu =>
    simp at hu
    subst hu
    simp [Addr.add]

/-- Bytes that a text's constant lays. -/
theorem sl_const (w : World) (B : List Nat) (e : TypeId) (fr : Nat × Nat) (n : Nat) (hn : B.length = n) (hm : n ≤ maxLen) : Sl (w.alloc (.cells (u8s B).toArray e fr)) (.slice (some ⟨w.heap.size, 0, none⟩) n n) (u8s B) := by
  subst hn
  refine ⟨_, B.length, by rw [u8s_length], by rw [u8s_length]; exact Nat.le_refl _, hm, fun h => by simp at h, fun _ => ⟨w.heap.size, 0, rfl, by simp, fun j u hu => ?_⟩⟩
  rw [Nat.zero_add, World.cell?_alloc_mark, List.getElem?_toArray]
  exact hu

end Go.Proofs.Ytlbnjclchmnomaa
