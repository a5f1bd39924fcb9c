/- Slices of slices: b[:k], b[k:]. -/
import Derived.Test.YtiibnmejoccfkaaKit
namespace Go.Proofs.Ytiibnmejoccfkaa
open Go.RowKit Bx

theorem u8s_take (B : List Nat) (k : Nat) : (u8s B).take k = u8s (B.take k) := by simp [u8s, List.map_take]
theorem u8s_drop (B : List Nat) (k : Nat) : (u8s B).drop k = u8s (B.drop k) := by simp [u8s, List.map_drop]

theorem Sl.cap {w : World} {ao : Option Addr} {len cap : Nat} {xs : List Value} (h : Sl w (.slice ao len cap) xs) : len ≤ cap ∧ cap ≤ maxLen := by
  obtain ⟨ao', c, e, hc, hm, _⟩ := h
  simp only [Value.slice.injEq] at e
  obtain ⟨rfl, rfl, rfl⟩ := e
  exact ⟨hc, hm⟩

theorem Sl.take {w : World} {ao : Option Addr} {len cap : Nat} {xs : List Value} (h : Sl w (.slice ao len cap) xs) (k : Nat) (hk : k ≤ len) : Sl w (.slice ao k cap) (xs.take k) := by
  obtain ⟨ao', c, e, hc, hm, hno, hp⟩ := h
  simp only [Value.slice.injEq] at e
  obtain ⟨rfl, rfl, rfl⟩ := e
  have hl : (xs.take k).length = k := by simp; omega
  refine ⟨ao, cap, by rw [hl], by omega, hm, hno, fun h0 => ?_⟩
  obtain ⟨b, off, e, hb, hh⟩ := hp (by omega)
  refine ⟨b, off, e, hb, fun j u hu => ?_⟩
  have hj := (List.getElem?_eq_some_iff.1 hu).1
  rw [hl] at hj
  rw [List.getElem?_take, if_pos hj] at hu
  exact hh j u hu

theorem Sl.drop {w : World} {ao : Option Addr} {len cap : Nat} {xs : List Value} (h : Sl w (.slice ao len cap) xs) (k : Nat) (hk : k ≤ len) : Sl w (.slice (if cap = k then ao else ao.map (fun x => x.add k)) (len - k) (cap - k)) (xs.drop k) := by
  obtain ⟨ao', c, e, hc, hm, hno, hp⟩ := h
  simp only [Value.slice.injEq] at e
  obtain ⟨rfl, rfl, rfl⟩ := e
  have hl : (xs.drop k).length = xs.length - k := by simp
  refine ⟨_, cap - k, by rw [hl], by omega, by omega, fun h => ?_, fun h0 => ?_⟩
  · split at h
    · omega
    · cases ao with
      | none => have := hno rfl; omega
      | some a => simp at h
  · obtain ⟨b, off, rfl, hb, hh⟩ := hp (by omega)
    rw [if_neg (by omega)]
    refine ⟨b, off + k, by simp [Addr.add_lit], hb, fun j u hu => ?_⟩
    rw [List.getElem?_drop] at hu
    have := hh (k + j) u hu
    rwa [Nat.add_assoc]

theorem elem_bytes : Try.prog.elem 22 = 5 := by kernel_rfl

theorem size_u8 (w : World) : (sizeOf 5).run Try.prog w = .ok 1 w := by
  obtain ⟨i, hi, hz, hsize, hby⟩ := info_parts info_u8
  simp [sizeOf, typeInfo, hi, hsize]

/-- A slice of bytes from k on. -/
theorem run_from (w : World) (ao : Option Addr) (len cap k : Nat) (h : k ≤ len) : (Instr.slice 22 (.slice ao len cap) (some (.int .i64 (k : Int))) none none).run Try.prog w = .ok (.slice (if cap = k then ao else ao.map (fun x => x.add k)) (len - k) (cap - k)) w := by
  have ht : Try.prog.underlying 22 = some (.slice (Try.prog.elem 22)) := by rw [elem_bytes]; exact Try.underlying22
  rw [run_slice_l w 22 ao len cap ht .i64 (k : Int) (by omega) (by omega), elem_bytes, size_u8]
  simp [sliced]

theorem run_from_at (w : World) (ao : Option Addr) (len cap k : Nat) (h : k ≤ len) : (Instr.sliceAt 22 (.slice ao len cap) (some (.int .i64 (k : Int))) none none).run Try.prog w = .ok (.slice (if cap = k then ao else ao.map (fun x => x.add k)) (len - k) (cap - k)) w := by
  have ht : Try.prog.underlying 22 = some (.slice (Try.prog.elem 22)) := by rw [elem_bytes]; exact Try.underlying22
  rw [run_sliceAt_slice w 22 _ _ _ _ ht, run_from w ao len cap k h]

end Go.Proofs.Ytiibnmejoccfkaa
