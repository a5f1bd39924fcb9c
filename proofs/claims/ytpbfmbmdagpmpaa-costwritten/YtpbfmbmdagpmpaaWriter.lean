/- A writer of bits in memory: its struct, its bytes; what one step of a put does to it. -/
import Derived.Test.YtpbfmbmdagpmpaaMath
import Derived.Test.YtpbfmbmdagpmpaaBase
namespace Go.Proofs.Ytpbfmbmdagpmpaa
open Go.RowKit Bx

/-- At block p lies a writer whose slice is v: c bits, the number N, and r bits 0 behind them. -/
def Wr (base : Nat) (w : World) (p : Nat) (v : Value) (N c r : Nat) : Prop :=
  base ≤ p ∧ w.heap[p]? = some (.cells #[v, .int .i64 c] 54 (0, 0)) ∧ v.ownBlock ≠ some p ∧
  ∃ B : List Nat, w.ownsRow base 5 1 v B.length (u8s B) ∧ Pk B N c r

theorem Wr.lt {base : Nat} {w : World} {p : Nat} {v : Value} {N c r : Nat} (h : Wr base w p v N c r) : p < w.heap.size := lt_of_heap h.2.1

theorem Wr.own {base : Nat} {w : World} {p : Nat} {v : Value} {N c r : Nat} (h : Wr base w p v N c r) {k : Nat} (hk : v.ownBlock = some k) : base ≤ k ∧ k < w.heap.size := by
  obtain ⟨_, _, _, B, ho, _⟩ := h
  exact ho.lt k hk

theorem Wr.kept {base : Nat} {w w' : World} {p : Nat} {v : Value} {N c r : Nat} {S : Nat → Prop} (h : Wr base w p v N c r) (hk : Kept S w w') (h1 : ¬ S p) (h2 : ∀ k, v.ownBlock = some k → ¬ S k) : Wr base w' p v N c r := by
  obtain ⟨hb, hp, hne, B, ho, hpk⟩ := h
  exact ⟨hb, hk.heap hp h1, hne, B, hk.owns ho h2, hpk⟩

theorem Wr.small {base : Nat} {w : World} {p : Nat} {v : Value} {N c r : Nat} (h : Wr base w p v N c r) : N < 2 ^ c := by
  obtain ⟨_, _, _, B, _, hpk⟩ := h
  exact hpk.2.2.2

/-- There is room in the last byte: it is there, and what a piece more makes of the world. -/
theorem Wr.step {base : Nat} {w : World} {p : Nat} {v : Value} {N c r : Nat} (h : Wr base w p v N c r) (hr : 0 < r) (hr8 : r ≤ 8) :
    ∃ g L cap x, v = .slice (some ⟨g, 0, none⟩) (L + 1) cap ∧ L + 1 ≤ cap ∧ cap ≤ maxLen ∧ 8 * (L + 1) = c + r ∧ g ≠ p ∧ w.cell? ⟨g, L, none⟩ = some (.int .u8 ((x : Nat) : Int)) ∧ w.frozen? ⟨g, L, none⟩ = false ∧ x < 256 ∧ x % 2 ^ r = 0 ∧
      ∀ s y, s ≤ r → y < 2 ^ s → Wr base ((w.setCell ⟨g, L, none⟩ (.int .u8 ((x + y * 2 ^ (r - s) : Nat) : Int))).setCell ⟨p, 1, none⟩ (.int .i64 ((c + s : Nat) : Int))) p v (N * 2 ^ s + y) (c + s) (r - s) := by
  obtain ⟨hb, hp, hne, B, ho, hpk⟩ := h
  have hlen := hpk.2.1
  obtain ⟨i, x, rfl⟩ := snoc_of_pos B (by omega)
  have hx := hpk.1 x (by simp)
  obtain ⟨g, cap, rfl, h1, h2, hbg, hgl⟩ := owns_pos ho (by simp)
  have hgp : g ≠ p := fun e => hne (by simp [Value.ownBlock, e])
  simp only [List.length_append, List.length_cons, List.length_nil, Nat.zero_add] at ho hlen h1 ⊢
  have hc := ho.cellAt i.length (by omega)
  rw [u8s_get _ _ (by simp)] at hc
  have e0 : (i ++ [x]).getD i.length 0 = x := by simp [List.getD]
  rw [e0] at hc
  refine ⟨g, i.length, cap, x, rfl, h1, h2, hlen, hgp, hc, ho.frozenAt i.length, hx, (pk_step (y := 0) hpk hr8 (Nat.zero_le r) (by simp)).1, ?_⟩
  intro s y hs hy
  obtain ⟨_, _, hpk'⟩ := pk_step hpk hr8 hs hy
  have ho1 := (ho.stored i.length (.int .u8 ((x + y * 2 ^ (r - s) : Nat) : Int))).1
  have hp1 : (w.setCell ⟨g, i.length, none⟩ (.int .u8 ((x + y * 2 ^ (r - s) : Nat) : Int))).heap[p]? = some (.cells #[.slice (some ⟨g, 0, none⟩) (i.length + 1) cap, .int .i64 c] 54 (0, 0)) := by
    rw [heap_set_other (by simpa using Ne.symm hgp)]
    simpa using hp
  have e1 : (u8s (i ++ [x])).set i.length (.int .u8 ((x + y * 2 ^ (r - s) : Nat) : Int)) = u8s (i ++ [x + y * 2 ^ (r - s)]) := by
    simp [u8s]
  rw [e1] at ho1
  refine ⟨hb, ?_, hne, i ++ [x + y * 2 ^ (r - s)], ?_, hpk'⟩
  · rw [heap_set hp1]; simp
  · have hk := Kept.setCell (S := fun k => k = p) (p := ⟨p, 1, none⟩) (Kept.refl _ (w.setCell ⟨g, i.length, none⟩ (.int .u8 ((x + y * 2 ^ (r - s) : Nat) : Int)))) (.inl rfl) (.int .i64 ((c + s : Nat) : Int))
    simpa using hk.owns ho1 (fun k hk e => hgp (by simp [Value.ownBlock] at hk; omega))

/-- A byte 0 has been laid behind: the world in which the slice was grown, and the struct told so. -/
theorem Wr.room {base : Nat} {w w1 : World} {p : Nat} {v v1 : Value} {N c : Nat} {B : List Nat} (hb : base ≤ p) (hp : w.heap[p]? = some (.cells #[v, .int .i64 c] 54 (0, 0))) (hne : v.ownBlock ≠ some p)
    (hpk : Pk B N c 0) (hg : w.grownBy w1 v.ownBlock) (ho : w1.ownsRow base 5 1 v1 (B.length + 1) (u8s B ++ [.int .u8 0])) (hv : v1.ownBlock = v.ownBlock ∨ ∀ k, v1.ownBlock = some k → p < k) :
    Wr base (w1.setCell ⟨p, 0, none⟩ v1) p v1 N c 8 := by
  have hne1 : v1.ownBlock ≠ some p := by
    rcases hv with hv | hv
    · rw [hv]; exact hne
    · intro e; have := hv p e; omega
  have hp1 : w1.heap[p]? = some (.cells #[v, .int .i64 c] 54 (0, 0)) := (hg.block p (lt_of_heap hp) (fun e => hne e.symm)).trans hp
  refine ⟨hb, ?_, hne1, B ++ [0], ?_, pk_room hpk⟩
  · rw [heap_set hp1]; simp
  · have hk := Kept.setCell (S := fun k => k = p) (p := ⟨p, 0, none⟩) (Kept.refl _ w1) (.inl rfl) v1
    have := hk.owns ho (fun k hk e => hne1 (by rw [hk, e]))
    simpa [u8s] using this

end Go.Proofs.Ytpbfmbmdagpmpaa
