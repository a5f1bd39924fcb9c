/- Slices of slices: b[:k], b[k:]; sources of appends; bytes of a constant text. -/
import Derived.Test.YtliggpidkdiinaaKit
namespace Go.Proofs.Ytliggpidkdiinaa
open Go.RowKit Bx

theorem u8s_take (B : List Nat) (k : Nat) : (u8s B).take k = u8s (B.take k) := by simp [u8s, List.map_take]
theorem u8s_drop (B : List Nat) (k : Nat) : (u8s B).drop k = u8s (B.drop k) := by simp [u8s, List.map_drop]

theorem Sl.cap {w : World} {ao : Option Addr} {len cap : Nat} {xs : List Value} (h : Sl w (.slice ao len cap) xs) : len ≤ cap ∧ cap ≤ maxLen := by
  obtain ⟨ao', c, e, hc, hm, _⟩ := h
  simp only [Value.slice.injEq] at e
  obtain ⟨rfl, rfl, rfl⟩ := e
  exact ⟨hc, hm⟩

theorem Sl.take {w : World} {ao : Option Addr} {len cap : Nat} {xs : List Value} (h : Sl w (.slice ao len cap) xs) (k : Nat) (hk : k ≤ len) : Sl w (.slice ao k cap) (xs.take k) := by
  obtain ⟨ao', c, e, hc, hm, hno, hp⟩ := h
  simp only [Value.slice.injEq] at e
  obtain ⟨rfl, rfl, rfl⟩ := e
  have hl : (xs.take k).length = k := by simp; omega
  refine ⟨ao, cap, by rw [hl], by omega, hm, hno, fun h0 => ?_⟩
  obtain ⟨b, off, e, hb, hh⟩ := hp (by omega)
  refine ⟨b, off, e, hb, fun j u hu => ?_⟩
  have hj := (List.getElem?_eq_some_iff.1 hu).1
  rw [hl] at hj
  rw [List.getElem?_take, if_pos hj] at hu
  exact hh j u hu

theorem Sl.drop {w : World} {ao : Option Addr} {len cap : Nat} {xs : List Value} (h : Sl w (.slice ao len cap) xs) (k : Nat) (hk : k ≤ len) : Sl w (.slice (if cap = k then ao else ao.map (fun x => x.add k)) (len - k) (cap - k)) (xs.drop k) := by
  obtain ⟨ao', c, e, hc, hm, hno, hp⟩ := h
  simp only [Value.slice.injEq] at e
  obtain ⟨rfl, rfl, rfl⟩ := e
  have hl : (xs.drop k).length = xs.length - k := by simp
  refine ⟨_, cap - k, by rw [hl], by omega, by omega, fun h => ?_, fun h0 => ?_⟩
  · split at h
    · omega
    · cases ao with
      | none => have := hno rfl; omega
      | some a => simp at h
  · obtain ⟨b, off, rfl, hb, hh⟩ := hp (by omega)
    rw [if_neg (by omega)]
    refine ⟨b, off + k, by simp [Addr.add_lit], hb, fun j u hu => ?_⟩
    rw [List.getElem?_drop] at hu
    have := hh (k + j) u hu
    rwa [Nat.add_assoc]

theorem size_u8 (w : World) : (sizeOf 5).run Try.prog w = .ok 1 w := by
  obtain ⟨i, hi, hz, hsize, hby⟩ := info_parts info_u8
  simp [sizeOf, typeInfo, hi, hsize]

theorem sl_nil (w : World) : Sl w (.slice none 0 0) (u8s []) := ⟨none, 0, rfl, Nat.le_refl _, by simp [maxLen], fun _ => rfl, fun h => by simp [u8s] at h⟩

theorem src_u8s {w : World} {ao : Option Addr} {n cap : Nat} {B : List Nat} (h : Sl w (.slice ao n cap) (u8s B)) : SrcIs w 1 ao n cap (u8s B) := by
  obtain ⟨ao', cap', e, hs⟩ := src_of_sl h (u8s_one B)
  simp only [Value.slice.injEq, u8s_length] at e
  obtain ⟨rfl, rfl, rfl⟩ := e
  rwa [u8s_length] at hs

/-- A new empty slice has grown: nothing that was there has turned. -/
theorem kept_new {w w1 : World} {o : Obj} (hg : (w.alloc o).grownBy w1 (Value.slice (some ⟨w.heap.size, 0, none⟩) 0 0).ownBlock) : Kept Nix w w1 :=
  ((Kept.refl _ w).alloc o).grown hg (fun k hk => .inr (by have hk' : some w.heap.size = some k := hk; simp only [Option.some.injEq] at hk'; omega))

/-- Two new cells at a new block. -/
theorem src_two (w : World) (x y : Value) (t : TypeId) (h1 : x.oneCell' = true) (h2 : y.oneCell' = true) : SrcIs (w.alloc (.cells #[x, y] t)) 1 (some ⟨w.heap.size, 0, none⟩) 2 2 [x, y] := by
  refine ⟨rfl, fun h => by simp at h, ?_, by simp [h1, h2]⟩
  rintro ad h j u hu
  obtain rfl := Option.some.inj h
  match j, hu with
  | 0, hu =>
    simp at hu
    subst hu
    simp [Addr.add]
  | 1, hu =>
    simp at hu
    subst hu
    simp [Addr.add]

/-- Bytes that a text's constant lays. -/
theorem sl_const (w : World) (B : List Nat) (e : TypeId) (fr : Nat × Nat) (n : Nat) (hn : B.length = n) (hm : n ≤ maxLen) : Sl (w.alloc (.cells (u8s B).toArray e fr)) (.slice (some ⟨w.heap.size, 0, none⟩) n n) (u8s B) := by
  subst hn
  refine ⟨_, B.length, by rw [u8s_length], by rw [u8s_length]; exact Nat.le_refl _, hm, fun h => by simp at h, fun _ => ⟨w.heap.size, 0, rfl, by simp, fun j u hu => ?_⟩⟩
  rw [Nat.zero_add, World.cell?_alloc_mark, List.getElem?_toArray]
  exact hu

end Go.Proofs.Ytliggpidkdiinaa
