/- Channels in memory: a slice of slices of integers, as a list of lists. No program. -/
import Derived.Test.YtliggpidkdiinaaArgRows
import Derived.Test.YtliggpidkdiinaaAgg
namespace Go.Proofs.Ytliggpidkdiinaa
open Go.RowKit

/-- A slice of slices of integers that reads as this list of lists, wherever it lies. -/
def Chs (w : World) (v : Value) (L : List (List Int)) : Prop :=
  ∃ vs : List Value, Sl w v vs ∧ vs.length = L.length ∧ ∀ i, i < L.length → ∃ u, vs[i]? = some u ∧ Sl w u ((L.getD i []).map (Value.int .i64))

theorem Chs.nix {w w' : World} {v : Value} {L : List (List Int)} (h : Chs w v L) (hk : Kept Nix w w') : Chs w' v L := by
  obtain ⟨vs, h1, h2, h3⟩ := h
  exact ⟨vs, h1.nix hk, h2, fun i hi => by obtain ⟨u, hu, hs⟩ := h3 i hi; exact ⟨u, hu, hs.nix hk⟩⟩

theorem chs_of_rws {w : World} {v : Value} {vs : List Value} (h : Rws w v .i64 vs) : ∃ L, Chs w v L ∧ ∀ c ∈ L, ∀ n ∈ c, (Lit.int .i64 n).wf = true := by
  obtain ⟨h1, h2⟩ := h
  have key : ∀ us : List Value, (∀ u ∈ us, ∃ zs : List Int, Sl w u (zs.map (Value.int .i64)) ∧ ∀ n ∈ zs, (Lit.int .i64 n).wf = true) →
      ∃ L : List (List Int), us.length = L.length ∧ (∀ i, i < L.length → ∃ u, us[i]? = some u ∧ Sl w u ((L.getD i []).map (Value.int .i64))) ∧ ∀ c ∈ L, ∀ n ∈ c, (Lit.int .i64 n).wf = true := by
    intro us
    induction us with
    | nil => exact fun _ => ⟨[], rfl, fun i hi => by simp at hi, by simp⟩
    | cons u us ih =>
      intro hu
      obtain ⟨zs, hz, hw⟩ := hu u (by simp)
      obtain ⟨L, hl, hr, hv⟩ := ih (fun x hx => hu x (List.mem_cons_of_mem _ hx))
      refine ⟨zs :: L, by simp [hl], fun i hi => ?_, ?_⟩
      · cases i with
        | zero => exact ⟨u, by simp, by simpa using hz⟩
        | succ i =>
          obtain ⟨x, hx, hs⟩ := hr i (by simpa using hi)
          exact ⟨x, by simpa using hx, by simpa using hs⟩
      · intro c hc
        rcases List.mem_cons.1 hc with rfl | hc
        · exact hw
        · exact hv c hc
  obtain ⟨L, hl, hr, hv⟩ := key vs h2
  exact ⟨L, ⟨vs, h1, hl, hr⟩, hv⟩

/-- Channels as the walk asks for them. -/
theorem Chs.open {w : World} {v : Value} {L : List (List Int)} (h : Chs w v L) : ∃ ao cap, v = .slice ao L.length cap ∧ L.length ≤ cap ∧ cap ≤ maxLen ∧
    (0 < L.length → ∃ b off, ao = some ⟨b, off, none⟩ ∧ b < w.heap.size ∧ ∃ (A : Nat → Option Addr) (C : Nat → Nat), ∀ i, i < L.length → w.cell? ⟨b, off + i, none⟩ = some (.slice (A i) (L.getD i []).length (C i)) ∧
      Sl w (.slice (A i) (L.getD i []).length (C i)) ((L.getD i []).map (Value.int .i64))) := by
  obtain ⟨vs, ⟨ao, cap, rfl, hc, hm, hno, hp⟩, h2, h3⟩ := h
  refine ⟨ao, cap, by rw [h2], by omega, hm, fun h0 => ?_⟩
  obtain ⟨b, off, rfl, hb, hh⟩ := hp (by omega)
  have hx : ∀ i, ∃ (x : Option Addr × Nat), i < L.length → w.cell? ⟨b, off + i, none⟩ = some (.slice x.1 (L.getD i []).length x.2) ∧ Sl w (.slice x.1 (L.getD i []).length x.2) ((L.getD i []).map (Value.int .i64)) := by
    intro i
    by_cases hi : i < L.length
    · obtain ⟨u, hu, hs⟩ := h3 i hi
      obtain ⟨ao', c', e, _⟩ := hs.ints
      refine ⟨(ao', c'), fun _ => ?_⟩
      subst e
      exact ⟨hh i _ hu, hs⟩
    · exact ⟨(none, 0), fun h => absurd h hi⟩
  obtain ⟨f, hf⟩ := Classical.axiomOfChoice hx
  exact ⟨b, off, rfl, hb, fun i => (f i).1, fun i => (f i).2, fun i hi => hf i hi⟩

theorem Chs.len {w : World} {ao : Option Addr} {n cap : Nat} {L : List (List Int)} (h : Chs w (.slice ao n cap) L) : n = L.length ∧ n ≤ cap ∧ cap ≤ maxLen := by
  obtain ⟨ao', c, e, h1, h2, _⟩ := h.open
  simp only [Value.slice.injEq] at e
  obtain ⟨_, rfl, rfl⟩ := e
  exact ⟨rfl, h1, h2⟩

/-- Where they lie, if there are some. -/
theorem Chs.at {w : World} {ao : Option Addr} {n cap : Nat} {L : List (List Int)} (h : Chs w (.slice ao n cap) L) (h0 : 0 < L.length) : ∃ b off, ao = some ⟨b, off, none⟩ ∧ b < w.heap.size ∧ ∃ (A : Nat → Option Addr) (C : Nat → Nat), ∀ i, i < L.length → w.cell? ⟨b, off + i, none⟩ = some (.slice (A i) (L.getD i []).length (C i)) ∧
      Sl w (.slice (A i) (L.getD i []).length (C i)) ((L.getD i []).map (Value.int .i64)) := by
  obtain ⟨ao', c, e, _, _, hp⟩ := h.open
  simp only [Value.slice.injEq] at e
  obtain ⟨rfl, rfl, rfl⟩ := e
  exact hp h0

theorem row_len {w : World} {u : Value} {L : List Int} (h : Sl w u (L.map (Value.int .i64))) : L.length ≤ maxLen := by
  obtain ⟨_, _, _, h1, h2, _⟩ := h.ints
  omega

theorem chs_nil (w : World) : Chs w (.slice none 0 0) [] := ⟨[], ⟨none, 0, rfl, Nat.le_refl _, by simp [maxLen], fun _ => rfl, fun h => by simp at h⟩, rfl, fun i hi => by simp at hi⟩

end Go.Proofs.Ytliggpidkdiinaa
