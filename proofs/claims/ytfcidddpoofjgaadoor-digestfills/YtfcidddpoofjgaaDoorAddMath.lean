/- What Add makes of a state's cells; the builtin copy into a block; slices that lie elsewhere. -/
import Derived.Test.YtfcidddpoofjgaaDoorSt
import Derived.Test.YtfcidddpoofjgaaDoorCut
namespace Go.Proofs.YtfcidddpoofjgaaDoor
open Go.RowKit Bx Md

theorem wpList_cp {P : Program} (w : World) {ops : Array Oper} {rest : List Oper} {o : Oper} {a : Act} {Q : Exit → Act → World → Prop} (hgd : o.guard = none) (d s : Operand) (dT sT : TypeId)
    (ho : o.op = .call { callee := .builtin .copy, args := #[d, s], argTypes := #[dT, sT] }) (elem : TypeId) (g off dLen dCap : Nat) (ad : Addr) (sLen sCap : Nat) (cur : Array Value) (t : TypeId) (cs : List Value)
    (hd : a.eval d = .slice (some ⟨g, off, none⟩) dLen dCap) (hs : a.eval s = .slice (some ad) sLen sCap) (hu : P.underlying dT = some (.slice elem)) (hz : (P.info? elem).map (·.size) = some 1)
    (hg : w.heap[g]? = some (.cells cur t (0, 0))) (hn : cs.length = Nat.min sLen dLen) (hsrc : ∀ j v, cs[j]? = some v → w.cell? (ad.add j) = some v) (hfit : off + cs.length ≤ cur.size) (h1 : ∀ v ∈ cs, v.oneCell' = true)
    (h : wpList P ops Q rest (a.put o.dst (.int .i64 (cs.length : Int))) (w.setRow g (cur.toList.take off ++ cs ++ cur.toList.drop (off + cs.length)).toArray)) : wpList P ops Q (o :: rest) a w := by
  refine wpList_plain hgd fun K hK => ?_
  have hr := run_copy_row P w dT sT o.type elem g off dLen dCap ad sLen sCap cur t cs hu hz hg hn hsrc hfit h1
  unfold Oper.wp execOp
  simp only [ho, resolve, invoke, builtin, Sem.run_bind, Sem.run_pure, Result.andThen_ok, List.map_toArray, List.map_cons, List.map_nil, hd, hs, hr]
  exact hK _ _ h

theorem Sl.one {w w' : World} {v : Value} {xs : List Value} {p : Nat} (h : Sl w v xs) (hk : Kept (One p) w w') (hp : v.ownBlock ≠ some p) : Sl w' v xs := by
  obtain ⟨ao, cap, rfl, hc, hm, hno, hh⟩ := h
  refine ⟨ao, cap, rfl, hc, hm, hno, fun h0 => ?_⟩
  obtain ⟨b, off, rfl, hb, hcell⟩ := hh h0
  refine ⟨b, off, rfl, Nat.lt_of_lt_of_le hb hk.size, fun j u hu => (World.cell?_of_block (hk.block b hb ?_)).trans (hcell j u hu)⟩
  intro e
  exact hp (by rw [show b = p from e]; rfl)

/-- What lies in a slice lies below what is new. -/
theorem Sl.apart {w : World} {v : Value} {B : List Nat} {p : Nat} (h : Sl w v (u8s B)) (hp : w.heap.size ≤ p) : 0 < B.length → v.ownBlock ≠ some p := by
  obtain ⟨ao, cap, rfl, hc, hm, hno, hh⟩ := h
  intro h0 e
  obtain ⟨b, off, rfl, hb, _⟩ := hh (by rw [u8s_length]; exact h0)
  have e1 : b = p := by simpa [Value.ownBlock] using e
  omega

theorem stCells_get_count (q : Quad) (R : List Nat) (n m : Nat) (h : R.length = 64) : (stCells q R n).toArray.setIfInBounds 68 (.int .i64 (m : Int)) = (stCells q R m).toArray := by
  rw [List.setIfInBounds_toArray]
  unfold stCells
  rw [List.set_append_right _ _ (by simp [u32s, ws, u8s, h])]
  simp [u32s, ws, u8s, h]

theorem stCells_words (q r : Quad) (R : List Nat) (n : Nat) :
    ((((stCells q R n).toArray.setIfInBounds 0 (.int .u32 (r.a : Int))).setIfInBounds 1 (.int .u32 (r.b : Int))).setIfInBounds 2 (.int .u32 (r.c : Int))).setIfInBounds 3 (.int .u32 (r.d : Int)) = (stCells r R n).toArray := by
  simp [stCells, u32s, ws]

theorem stCells_copy (q : Quad) (R C : List Nat) (n k : Nat) (h : R.length = 64) (hk : k + C.length ≤ 64) :
    (stCells q R n).toArray.toList.take (4 + k) ++ u8s C ++ (stCells q R n).toArray.toList.drop (4 + k + (u8s C).length) = stCells q (R.take k ++ C ++ R.drop (k + C.length)) n := by
  simp only [stCells]
  have e4 : (u32s (ws q)).length = 4 := rfl
  rw [List.append_assoc (u32s (ws q)), List.take_append, List.drop_append, e4, show 4 + k - 4 = k by omega, show 4 + k + (u8s C).length - 4 = k + (u8s C).length by omega]
  rw [List.take_of_length_le (by rw [e4]; omega), List.drop_eq_nil_of_le (by rw [e4]; omega)]
  rw [List.take_append_of_le_length (by rw [u8s_length, h]; omega), List.drop_append_of_le_length (by rw [u8s_length, u8s_length, h]; omega)]
  rw [u8s_append, u8s_append, u8s_take, u8s_drop, u8s_length]
  simp

theorem row_length (R C : List Nat) (k : Nat) (h : R.length = 64) (hk : k + C.length ≤ 64) : (R.take k ++ C ++ R.drop (k + C.length)).length = 64 := by simp; omega
theorem row_lt (R C : List Nat) (k : Nat) (h : ∀ b ∈ R, b < 256) (hC : ∀ b ∈ C, b < 256) : ∀ b ∈ R.take k ++ C ++ R.drop (k + C.length), b < 256 := by
  intro b hb
  simp only [List.mem_append] at hb
  rcases hb with (hb | hb) | hb
  · exact h b (List.mem_of_mem_take hb)
  · exact hC b hb
  · exact h b (List.mem_of_mem_drop hb)

/-- A part that doesn't make the block whole. -/
theorem st_short (w : World) (p : Nat) (L R C : List Nat) (hL : ∀ b ∈ L, b < 256) (hC : ∀ b ∈ C, b < 256) (h1 : R.length = 64) (h2 : ∀ b ∈ R, b < 256) (h3 : R.take (L.length % 64) = L.drop (L.length / 64 * 64)) (h : L.length % 64 + C.length < 64)
    (hh : w.heap[p]? = some (.cells (stCells (dig L) (R.take (L.length % 64) ++ C ++ R.drop (L.length % 64 + C.length)) (L.length + C.length)).toArray 49 (0, 0))) : St w p (L ++ C) := by
  refine ⟨?_, _, row_length R C (L.length % 64) h1 (by omega), row_lt R C _ h2 hC, ?_, ?_⟩
  · intro b hb
    rcases List.mem_append.1 hb with hb | hb
    · exact hL b hb
    · exact hC b hb
  · have e1 : (L ++ C).length % 64 = L.length % 64 + C.length := by simp; omega
    have e2 : (L ++ C).length / 64 * 64 = L.length / 64 * 64 := by simp; omega
    rw [e1, e2, List.drop_append_of_le_length (by omega), ← h3, List.take_append_of_le_length (by simp; omega)]
    refine List.take_of_length_le ?_
    simp only [List.length_append, List.length_take]; omega
  · rw [dig_short L C h]
    have e : (L ++ C).length = L.length + C.length := by simp
    rw [e]
    exact hh

/-- One that does. -/
theorem st_whole (w : World) (p : Nat) (L R C : List Nat) (hL : ∀ b ∈ L, b < 256) (hC : ∀ b ∈ C, b < 256) (h1 : R.length = 64) (h2 : ∀ b ∈ R, b < 256) (h3 : R.take (L.length % 64) = L.drop (L.length / 64 * 64)) (h : L.length % 64 + C.length = 64)
    (hh : w.heap[p]? = some (.cells (stCells (blk (dig L) (wrds (R.take (L.length % 64) ++ C ++ R.drop (L.length % 64 + C.length)))) (R.take (L.length % 64) ++ C ++ R.drop (L.length % 64 + C.length)) (L.length + C.length)).toArray 49 (0, 0))) : St w p (L ++ C) := by
  refine ⟨?_, _, row_length R C (L.length % 64) h1 (by omega), row_lt R C _ h2 hC, ?_, ?_⟩
  · intro b hb
    rcases List.mem_append.1 hb with hb | hb
    · exact hL b hb
    · exact hC b hb
  · have e1 : (L ++ C).length % 64 = 0 := by simp; omega
    rw [e1, List.take_zero, List.drop_eq_nil_of_le]
    simp; omega
  · rw [dig_whole L C h, ← h3]
    have e : (L ++ C).length = L.length + C.length := by simp
    have e2 : R.drop (L.length % 64 + C.length) = [] := List.drop_eq_nil_of_le (by omega)
    rw [e2, List.append_nil] at hh
    rw [e, e2, List.append_nil]
    exact hh

theorem size_blk_u8 : (Tryd.prog.info? 5).map (·.size) = some 1 := by kernel_rfl

/-- The block's bytes from k on, as a slice. -/
theorem rest_from (w : World) (p k : Nat) (hk : k < 64) : (Instr.sliceAt 47 (.pointer (some ⟨p, 4, none⟩)) (some (.int .i64 (k : Int))) none none).run Tryd.prog w = .ok (.slice (some ⟨p, 4 + k, none⟩) (64 - k) (64 - k)) w := by
  have e : ¬ (64 = k) := by omega
  have e2 : k ≤ 64 := by omega
  simp [Instr.sliceAt, Instr.sureAddr, run_underlying Tryd.underlying47, Instr.sliceBounds, Instr.sliceBound, asIntOf, Sem.run_bind, e, e2, Addr.add_lit]

theorem own_from (ao : Option Addr) (len cap t : Nat) (l2 c2 : Nat) : (Value.slice (if cap = t then ao else ao.map (fun x => x.add t)) l2 c2).ownBlock = (Value.slice ao len cap).ownBlock := by
  cases ao with
  | none => simp [Value.ownBlock]
  | some a => split <;> simp [Value.ownBlock, Addr.add] <;> split <;> rfl

end Go.Proofs.YtfcidddpoofjgaaDoor
