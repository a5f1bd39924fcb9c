/- Package section: Put. -/
import Derived.Test.YtlbnjclchmnomaaSecLong
namespace Go.Proofs.Ytlbnjclchmnomaa
open Go.RowKit Go.Shelf Bx
attribute [local go_sem] Oper.semAt_some

/-- What is wrong with a section that shall be put; its bits, if nothing is. -/
def spE (L : List Int) (k : Int) (wd : Bool) (o : Int) (ps : List (Int × Bool)) : Int :=
  if pbits (pcz L (ctI L.length k o)) ps (wM wd) (wA wd) < 0 then 1 else if lngs (pcz L (ctI L.length k o)) ps = true then 7 else 0
def spB (L : List Int) (k : Int) (wd : Bool) (o : Int) (ps : List (Int × Bool)) : List Bool := if spE L k wd o ps = 0 then secB wd o.toNat (pcz L (ctI L.length k o)) ps else []

theorem Sl.sameOwn {w W : World} {v : Value} {xs : List Value} (h : Sl w v xs) (hk : ∀ k, Own v k → W.heap[k]? = w.heap[k]?) : Sl W v xs := by
  obtain ⟨ao, cap, rfl, h1, h2, h3, h4⟩ := h
  refine ⟨ao, cap, rfl, h1, h2, h3, fun h0 => ?_⟩
  obtain ⟨b, off, e, hb, hc⟩ := h4 h0
  have hbl := hk b (by rw [e]; rfl)
  refine ⟨b, off, e, ?_, fun j u hu => (World.cell?_of_block hbl).trans (hc j u hu)⟩
  have h5 := hbl
  rw [Array.getElem?_eq_getElem hb] at h5
  exact (Array.getElem?_eq_some_iff.1 h5).1

theorem Wr.cells {base : Nat} {w : World} {p : Nat} {v : Value} {N c r : Nat} (h : Wr base w p v N c r) : ∀ k, Only p v k → ∃ cs t fr, w.heap[k]? = some (.cells cs t fr) := by
  rintro k (rfl | hk)
  · exact ⟨_, _, _, h.2.1⟩
  · obtain ⟨_, _, _, B, ho, _⟩ := h
    rcases ho.2 with ⟨rfl, _⟩ | ⟨g, cap, cur, rfl, hb, hg, _⟩
    · simp [Value.ownBlock] at hk
    · simp only [Value.ownBlock, Option.some.injEq] at hk
      subst hk
      exact ⟨_, _, _, hg⟩

theorem Wr.keepsFrom {base : Nat} {w w' : World} {p : Nat} {v : Value} {N c r : Nat} (h : Wr base w p v N c r) (hk : Kept (Only p v) w w') (B : Nat) : KeepsFrom B w w' :=
  ⟨hk.size, fun k o _ ho hc => hk.heap ho (fun e => by obtain ⟨cs, t, fr, h2⟩ := h.cells k e; rw [h2] at ho; cases ho; cases hc)⟩

theorem Wr.ownFrom {β : Type} {B base p : Nat} {f : β → Value} {N c r : β → Nat} : OwnFrom B (fun (s : β) W => Wr base W p (f s) (N s) (c s) (r s)) :=
  fun s W W' row hs hg hr => by
    have hk : Kept (fun k => row = some k) W W' := (Kept.refl _ W).grown hg (fun k hk => .inl hk)
    refine Wr.kept hs hk (fun e => ?_) (fun k hk e => ?_)
    · obtain ⟨_, o, ho, hc⟩ := hr p e
      obtain ⟨cs, t, fr, h2⟩ := Wr.cells hs p (.inl rfl)
      rw [h2] at ho; cases ho; cases hc
    · obtain ⟨_, o, ho, hc⟩ := hr k e
      obtain ⟨cs, t, fr, h2⟩ := Wr.cells hs k (.inr hk)
      rw [h2] at ho; cases ho; cases hc

theorem putPost_ownFrom {β : Type} {B base p : Nat} {v : Value} {w : World} {N c : β → Nat} (hB : w.heap.size ≤ B) : OwnFrom B (fun (s : β) W => PutPost base w p v (N s) (c s) W) :=
  fun s W W' row hs hg hr => by
    obtain ⟨v', h1, h2, h3⟩ := hs
    exact ⟨v', Wr.ownFrom (β := Unit) (f := fun _ => v') (N := fun _ => N s) (c := fun _ => c s) (r := fun _ => (8 - c s % 8) % 8) () W W' row h1 hg hr, kept_ownFrom (β := Unit) hB () W W' row h2 hg hr, h3⟩

theorem spE_bad {L : List Int} {k : Int} {wd : Bool} {o : Int} {ps : List (Int × Bool)} (h : pbits (pcz L (ctI L.length k o)) ps (wM wd) (wA wd) < 0) : spE L k wd o ps = 1 ∧ spB L k wd o ps = [] := by
  have h1 : spE L k wd o ps = 1 := by unfold spE; rw [if_pos h]
  exact ⟨h1, by unfold spB; rw [h1, if_neg (by decide)]⟩
theorem spE_long {L : List Int} {k : Int} {wd : Bool} {o : Int} {ps : List (Int × Bool)} (h : ¬ pbits (pcz L (ctI L.length k o)) ps (wM wd) (wA wd) < 0) (h2 : lngs (pcz L (ctI L.length k o)) ps = true) : spE L k wd o ps = 7 ∧ spB L k wd o ps = [] := by
  have h1 : spE L k wd o ps = 7 := by unfold spE; rw [if_neg h, if_pos h2]
  exact ⟨h1, by unfold spB; rw [h1, if_neg (by decide)]⟩
theorem spE_good {L : List Int} {k : Int} {wd : Bool} {o : Int} {ps : List (Int × Bool)} (h : ¬ pbits (pcz L (ctI L.length k o)) ps (wM wd) (wA wd) < 0) (h2 : lngs (pcz L (ctI L.length k o)) ps = false) : spE L k wd o ps = 0 ∧ spB L k wd o ps = secB wd o.toNat (pcz L (ctI L.length k o)) ps := by
  have h1 : spE L k wd o ps = 0 := by unfold spE; rw [if_neg h, if_neg (by simp [h2])]
  exact ⟨h1, by unfold spB; rw [h1, if_pos rfl]⟩

/-- A plan that can be. -/
theorem pbits_ok {P : List (List Int)} {ps : List (Int × Bool)} {m a : Nat} (h : ¬ pbits P ps m a < 0) : P.length ≠ 0 ∧ P.length = ps.length ∧ zall m P ps = true := by
  unfold pbits at h
  split at h
  · omega
  · next h1 =>
    refine ⟨fun e => h1 (.inl e), ?_, ?_⟩
    · by_cases h2 : P.length = ps.length
      · exact h2
      · exact absurd (.inr (.inl h2)) h1
    · cases hz : zall m P ps with
      | true => rfl
      | false => exact absurd (.inr (.inr hz)) h1

theorem ctI_ok {n : Nat} {k o : Int} (h : (ctI n k o).length ≠ 0) : 0 ≤ k ∧ 0 ≤ o ∧ o ≤ 15 := by
  unfold ctI at h
  split at h
  · next h1 =>
    refine ⟨h1.1, h1.2, ?_⟩
    cases hc : cutOk n k.toNat o.toNat with
    | true => have := ((cutOk_iff _ _ _).1 hc).1; omega
    | false => rw [cts_none hc] at h; exact absurd rfl h
  · exact absurd rfl h

theorem lngs_of {P : List (List Int)} {ps : List (Int × Bool)} (h : lngs P ps = false) (i : Nat) (hi : i < P.length) : lng (P.getD i []) (ps.getD i (0, false)) = false := by
  cases hl : lng (P.getD i []) (ps.getD i (0, false)) with
  | false => rfl
  | true => rw [lngs_yes hi hl] at h; cases h

/-- How long the parts' bits are at most. -/
theorem ptb_len {wd : Bool} {Q : List Int} {k : Int} {r : Bool} (h : PutOk Q k r) : (ptb wd Q (k, r)).length ≤ 10 + Q.length * 65567 := by
  unfold ptb
  have h1 := ahb_len wd (k, r)
  have h2 := flat_len15 h Q.length (Nat.le_refl _)
  rw [List.take_length] at h2
  rw [List.length_append]
  simp only at h2 ⊢
  omega

theorem cts_max {n k o : Nat} (h : cutOk n k o = true) : ∃ M, (∀ i, i < 2 ^ o → (cts n k o).getD i 0 ≤ M) ∧ 2 ^ o * M ≤ 2 * n := by
  obtain ⟨h1, h2⟩ := cut_block h
  by_cases h0 : o = 0
  · subst h0
    refine ⟨n, fun i hi => ?_, by omega⟩
    rw [cts_get h hi]
    simp only [Nat.pow_zero, Nat.div_one] at *
    split <;> omega
  · refine ⟨(n + k) / 2 ^ o, fun i hi => ?_, ?_⟩
    · rw [cts_get h hi]
      split <;> omega
    · rw [← h1]
      have h3 : 2 * ((n + k) / 2 ^ o) ≤ 2 ^ o * ((n + k) / 2 ^ o) := Nat.mul_le_mul_right _ (by
        obtain ⟨q, rfl⟩ : ∃ q, o = q + 1 := ⟨o - 1, by omega⟩
        have := Nat.two_pow_pos q
        rw [Nat.pow_succ]; omega)
      omega

theorem flat_max {α : Type} {f : α → List Bool} {m : Nat} : ∀ (l : List α), (∀ x ∈ l, (f x).length ≤ m) → (l.flatMap f).length ≤ l.length * m
  | [], _ => by simp
  | x :: l, h => by
    have h1 := flat_max l (fun y hy => h y (by simp [hy]))
    have h2 := h x (by simp)
    rw [List.flatMap_cons, List.length_append, List.length_cons, Nat.succ_mul]
    omega

/-- The parts of a plan that can be: each can be put; so many bits some of them have at most. -/
theorem put_facts {L : List Int} {k : Int} {wd : Bool} {o : Int} {ps : List (Int × Bool)} (hll : L.length ≤ 1048576) (h : ¬ pbits (pcz L (ctI L.length k o)) ps (wM wd) (wA wd) < 0) (h2 : lngs (pcz L (ctI L.length k o)) ps = false) :
    (∀ i, i < (ctI L.length k o).length → PutOk ((pcz L (ctI L.length k o)).getD i []) (ps.getD i (0, false)).1 (ps.getD i (0, false)).2) ∧ (ctI L.length k o).length = ps.length ∧ (ctI L.length k o).length ≤ 32768 ∧
    ∃ m, (∀ i, i < (ctI L.length k o).length → 10 + ((pcz L (ctI L.length k o)).getD i []).length * 65567 ≤ m) ∧ (ctI L.length k o).length * m ≤ 137505000000 := by
  obtain ⟨g1, g2, g3⟩ := pbits_ok h
  rw [pcz_length] at g1 g2
  obtain ⟨c1, c2, c3⟩ := ctI_ok g1
  obtain ⟨K, rfl⟩ : ∃ K : Nat, k = (K : Int) := ⟨k.toNat, by omega⟩
  obtain ⟨O, rfl⟩ : ∃ O : Nat, o = (O : Int) := ⟨o.toNat, by omega⟩
  rw [ctI_nat] at *
  have hco : cutOk L.length K O = true := by
    cases hc : cutOk L.length K O with
    | true => rfl
    | false => rw [cts_none hc] at g1; exact absurd rfl g1
  have hcl := cts_length hco
  have hc32 := cts_length_le L.length K O
  obtain ⟨M, m1, m2⟩ := cts_max hco
  refine ⟨fun i hi => ?_, g2, hc32, 10 + M * 65567, fun i hi => ?_, ?_⟩
  · have e1 := all_of g3 i (by rw [pcz_length]; exact hi) (by omega)
    have e2 := lngs_of h2 i (by rw [pcz_length]; exact hi)
    exact putOk_of (by cases wd <;> decide) e1 e2
  · have := m1 i (by omega)
    rw [pcz_get _ _ i hi, List.length_take]
    have : min ((cts L.length K O).getD i 0) (L.drop ((cts L.length K O).take i).sum).length ≤ M := by omega
    have := Nat.mul_le_mul_right 65567 this
    omega
  · rw [hcl]
    have e1 : 2 ^ O * (10 + M * 65567) = 2 ^ O * 10 + 2 ^ O * M * 65567 := by rw [Nat.mul_add, Nat.mul_assoc]
    rw [e1]
    rw [hcl] at hc32
    have : 2 ^ O * M * 65567 ≤ 2 * 1048576 * 65567 := Nat.mul_le_mul_right _ (by omega)
    omega

end Go.Proofs.Ytlbnjclchmnomaa
