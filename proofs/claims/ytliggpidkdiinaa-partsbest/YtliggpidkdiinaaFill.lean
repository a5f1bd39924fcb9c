/- A slice of integers that is filled place by place; cells that are kept; b[k:]. -/
import Derived.Test.YtliggpidkdiinaaNear
namespace Go.Proofs.Ytliggpidkdiinaa
open Go.RowKit Bx

/-- The list L, its first i laid, the rest 0. -/
def fill (L : List Int) (i : Nat) : List Int := L.take i ++ List.replicate (L.length - i) 0

theorem fill_zero (L : List Int) : fill L 0 = List.replicate L.length 0 := by simp [fill]

theorem fill_last (L : List Int) : fill L L.length = L := by simp [fill]

theorem fill_length (L : List Int) (i : Nat) (h : i ≤ L.length) : (fill L i).length = L.length := by simp [fill]; omega

theorem fill_set (L : List Int) (i : Nat) (h : i < L.length) : (fill L i).set i (L.getD i 0) = fill L (i + 1) := by
  unfold fill
  obtain ⟨k, hk⟩ : ∃ k, L.length - i = k + 1 := ⟨L.length - i - 1, by omega⟩
  have hk2 : L.length - (i + 1) = k := by omega
  rw [hk, hk2, List.replicate_succ, List.set_append_right _ _ (by rw [List.length_take]; exact Nat.min_le_left _ _), List.take_succ_eq_append_getElem h]
  rw [List.length_take, Nat.min_eq_left (Nat.le_of_lt h), Nat.sub_self, List.set_cons_zero, List.append_assoc]
  simp [List.getD, h]

theorem lit_base (w : World) (base : Nat) (hb : base ≤ w.heap.size) (zs : List Int) (n : Nat) (hn : zs.length = n) (hm : n ≤ maxLen) : (w.alloc (.cells (ivs zs).toArray 3)).ownsRow base 3 1 (.slice (some ⟨w.heap.size, 0, none⟩) n n) n (ivs zs) := by
  have h := World.ownsRow_lit (base := base) (e := 3) (size := 1) w (ivs zs).toArray n hb hm (by simp [ivs, hn])
  simpa using h

theorem fill_cell {w : World} {base g m i : Nat} {L : List Int} (h : w.ownsRow base 3 1 (.slice (some ⟨g, 0, none⟩) m m) m (ivs (fill L i))) (hL : L.length = m) (hi : i < m) : ∃ z, w.cell? ⟨g, i, none⟩ = some z := by
  have e := fill_length L i (by omega)
  exact ⟨_, (h.cellAt i (by omega)).trans (ivs_get _ _ (by omega))⟩

/-- The cell of a slice's number, in any world that kept it. -/
theorem cell_kept {w : World} {ao : Option Addr} {cap : Nat} {zs : List Int} {m : Nat} (hs : Sl w (.slice ao m cap) (ivs zs)) (i : Nat) (hi : i < zs.length) : ∃ b off, ao = some ⟨b, off, none⟩ ∧ ∀ w', Kept Nix w w' → w'.cell? ⟨b, off + i, none⟩ = some (.int .i64 (zs.getD i 0)) := by
  obtain ⟨ao', cap', e, _, _, hp⟩ := hs.ints
  simp only [Value.slice.injEq] at e
  obtain ⟨rfl, -, -⟩ := e
  obtain ⟨b, off, e1, hb, hc⟩ := hp (by omega)
  exact ⟨b, off, e1, fun w' hk' => (World.cell?_of_block (hk'.block _ hb id)).trans (hc i hi)⟩

theorem bd_take {M : Int} {x : List Int} (h : Bd M x) (k : Nat) : Bd M (x.take k) := by
  apply bd_of_mem
  intro n hn
  exact h.mem n (List.mem_of_mem_take hn)

theorem bd_drop {M : Int} {x : List Int} (h : Bd M x) (k : Nat) : Bd M (x.drop k) := by
  apply bd_of_mem
  intro n hn
  exact h.mem n (List.mem_of_mem_drop hn)

theorem sl_drop_i {w : World} {ao : Option Addr} {len cap : Nat} {zs : List Int} (h : Sl w (.slice ao len cap) (ivs zs)) (k : Nat) (hk : k ≤ len) : Sl w (.slice (if cap = k then ao else ao.map (fun x => x.add k)) (len - k) (cap - k)) (ivs (zs.drop k)) := by
  have e : ivs (zs.drop k) = (ivs zs).drop k := by simp [ivs]
  rw [e]
  exact h.drop k hk

theorem src_row {w w' : World} {base n : Nat} {ao : Option Addr} {cap : Nat} {zs : List Int} (h : w.ownsRow base 3 1 (.slice ao n cap) n (ivs zs)) (hk : Kept Nix w w') : SrcIs w' 1 ao n cap (ivs zs) := by
  obtain ⟨ao', c', e, hs⟩ := src_of_sl ((sl_of_owns h).nix hk) (ivs_one _)
  simp only [Value.slice.injEq] at e
  obtain ⟨rfl, rfl, rfl⟩ := e
  exact hs

end Go.Proofs.Ytliggpidkdiinaa
