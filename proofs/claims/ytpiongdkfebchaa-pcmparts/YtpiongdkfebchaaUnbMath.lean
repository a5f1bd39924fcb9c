/- Samples into bytes and out of them, in numbers: there and back. -/
import Derived.Test.YtpiongdkfebchaaPcmUnb
namespace Go.Proofs.Ytpiongdkfebchaa
open Go.RowKit

theorem flat_drop (f : Nat → List Nat) (e : Nat) (h : ∀ x, (f x).length = e) : ∀ (N k a : Nat), k ≤ N → ((List.range' a N).flatMap f).drop (e * k) = (List.range' (a + k) (N - k)).flatMap f := by
  intro N k
  induction k generalizing N with
  | zero => intro a _; simp
  | succ k ih =>
    intro a hk
    obtain ⟨N', rfl⟩ : ∃ N', N = N' + 1 := ⟨N - 1, by omega⟩
    rw [List.range'_succ, List.flatMap_cons, Nat.mul_add, Nat.mul_one, Nat.add_comm (e * k) e, ← List.drop_drop, List.drop_append_of_le_length (by rw [h]; omega), ← h a, List.drop_length, List.nil_append, h a, ih N' (a + 1) (by omega)]
    congr 2
    · omega
    · omega

theorem chunk_flat (f : Nat → List Nat) (e : Nat) (h : ∀ x, (f x).length = e) (N k : Nat) (hk : k < N) : chunk ((List.range N).flatMap f) e k = f k := by
  unfold chunk
  rw [List.range_eq_range', flat_drop f e h N k 0 (by omega), Nat.zero_add]
  obtain ⟨m, hm⟩ : ∃ m, N - k = m + 1 := ⟨N - k - 1, by omega⟩
  rw [hm, List.range'_succ, List.flatMap_cons, List.take_append_of_le_length (by rw [h]; omega), ← h k, List.take_length]

theorem flat_chunk (B : List Nat) (e N : Nat) (h : B.length = e * N) : (List.range N).flatMap (fun k => chunk B e k) = B := by
  have key : ∀ k, k ≤ N → (List.range k).flatMap (fun k => chunk B e k) = B.take (e * k) := by
    intro k
    induction k with
    | zero => intro _; simp
    | succ k ih =>
      intro hk
      rw [List.range_succ, List.flatMap_append, ih (by omega)]
      simp only [List.flatMap_cons, List.flatMap_nil, List.append_nil, chunk]
      rw [Nat.mul_add, Nat.mul_one, List.take_add]
  rw [key N (Nat.le_refl _), ← h, List.take_length]

theorem flat_congr {l : List Nat} {f g : Nat → List Nat} (h : ∀ x ∈ l, f x = g x) : l.flatMap f = l.flatMap g := by
  induction l with
  | nil => rfl
  | cons a l ih => rw [List.flatMap_cons, List.flatMap_cons, h a (by simp), ih (fun x hx => h x (List.mem_cons_of_mem _ hx))]

theorem chunk_len (B : List Nat) (e N k : Nat) (h : B.length = e * N) (hk : k < N) : (chunk B e k).length = e := by
  unfold chunk
  rw [List.length_take, List.length_drop, h, ← Nat.mul_sub]
  have : e ≤ e * (N - k) := Nat.le_mul_of_pos_right _ (by omega)
  omega

theorem chk_range {r d : Int} {L : List (List Int)} (h : chkE r d L = 0) : rangeB L d = true := by
  unfold chkE at h
  split at h
  · split at h
    · split at h
      · assumption
      · omega
    · omega
  · exact absurd h (by assumption)

theorem smp_in {r d : Int} {L : List (List Int)} (h : chkE r d L = 0) {x : Nat} (hx : x < manyN L * L.length) : inD (smp L x) d = true := by
  obtain ⟨hl, _⟩ := kind_parts (chk_kind h)
  cases hq : inD (smp L x) d with
  | true => rfl
  | false =>
    have := unrange_of hl (chk_even h) hx hq
    rw [chk_range h] at this
    cases this

theorem grid_smp {L : List (List Int)} (hev : ∀ j, j < L.length → (L.getD j []).length = manyN L) : gridF L.length (manyN L) (fun c i => smp L (i * L.length + c)) = L := by
  apply List.ext_getElem
  · simp [gridF]
  · intro c h1 h2
    have hc : c < L.length := h2
    have hlen := hev c hc
    have hg : L.getD c [] = L[c] := by simp [List.getD, hc]
    rw [hg] at hlen
    apply List.ext_getElem
    · simp [gridF, hlen]
    · intro i i1 i2
      simp only [gridF, List.getElem_map, List.getElem_range]
      unfold smp
      rw [place_mod hc, place_div hc, hg]
      simp [List.getD, i2]

theorem bytes_len (L : List (List Int)) (d : Int) : (bytesOf L d).length = eachN d * (manyN L * L.length) := by
  unfold bytesOf
  rw [flat_len _ _ (eachN d) (fun _ => sb_length _ _), List.length_range, Nat.mul_comm]

theorem bytes_lt (L : List (List Int)) (d : Int) : ∀ b ∈ bytesOf L d, b < 256 := by
  intro b hb
  unfold bytesOf at hb
  obtain ⟨x, _, hx⟩ := List.mem_flatMap.1 hb
  exact sb_lt _ _ b hx

/-- There and back. -/
theorem unb_bytes {r d : Int} {L : List (List Int)} (h : chkE r d L = 0) : unbE (bytesOf L d) r d (L.length : Int) = 0 ∧ unbSound (bytesOf L d) r d (L.length : Int) = (r, d, L) := by
  obtain ⟨hl1, hl8, hd4, hd32⟩ := kind_parts (chk_kind h)
  have he := eachN_lo d
  have hlen := bytes_len L d
  have hch : ∀ k, k < manyN L * L.length → snum (chunk (bytesOf L d) (eachN d) k) = smp L k := by
    intro k hk
    unfold bytesOf
    rw [chunk_flat _ (eachN d) (fun _ => sb_length _ _) _ k hk, snum_sb _ d hd4 hd32 (smp_in h hk)]
  have hE : unbE (bytesOf L d) r d (L.length : Int) = 0 := by
    unfold unbE
    rw [if_pos (chk_kind h), Int.toNat_natCast, hlen, if_pos, if_pos]
    · unfold unbR
      rw [Nat.mul_div_cancel_left _ he, List.all_eq_true]
      intro k hk
      have hk' := List.mem_range.1 hk
      rw [hch k hk']
      exact smp_in h hk'
    · rw [Nat.mul_comm (manyN L), ← Nat.mul_assoc]
      exact Nat.mul_mod_right _ _
  refine ⟨hE, ?_⟩
  unfold unbSound
  rw [if_pos hE, Int.toNat_natCast, hlen]
  have hM : eachN d * (manyN L * L.length) / (eachN d * L.length) = manyN L := by
    rw [Nat.mul_comm (manyN L), ← Nat.mul_assoc, Nat.mul_div_cancel_left _ (Nat.mul_pos he hl1)]
  rw [hM]
  unfold unbL
  rw [gridF_congr L.length (manyN L) (ψ := fun c i => smp L (i * L.length + c)) (fun c i hc hi => hch _ (place_lt hi hc)), grid_smp (chk_even h)]

theorem grid_many {C M : Nat} (hC : 0 < C) (φ : Nat → Nat → Int) : manyN (gridF C M φ) = M := gridF_row_len C M φ hC

theorem grid_smp_at {C M : Nat} (φ : Nat → Nat → Int) {x : Nat} (hx : x < M * C) (hC : 0 < C) : smp (gridF C M φ) x = φ (x % C) (x / C) := by
  unfold smp
  rw [gridF_length, gridF_row C M φ (Nat.mod_lt _ hC)]
  have hil : x / C < M := by rw [Nat.div_lt_iff_lt_mul hC]; exact hx
  simp [List.getD, hil]

/-- Back and there. -/
theorem bytes_unb {B : List Nat} {r d c : Int} (hB : ∀ b ∈ B, b < 256) (h : unbE B r d c = 0) : ∃ L, unbSound B r d c = (r, d, L) ∧ chkE r d L = 0 ∧ bytesOf L d = B ∧ manyN L ≤ B.length := by
  have hk : kindE r d c = 0 := by
    unfold unbE at h
    split at h
    · assumption
    · exact absurd h (by assumption)
  have hc : 1 ≤ c := by
    unfold kindE at hk
    split at hk <;> omega
  obtain ⟨C, rfl⟩ : ∃ C : Nat, c = (C : Int) := ⟨c.toNat, by omega⟩
  obtain ⟨hC1, hC8, hd4, hd32⟩ := kind_parts hk
  have he := eachN_lo d
  have h' := h
  unfold unbE at h'
  rw [if_pos hk, Int.toNat_natCast] at h'
  have hmod : B.length % (eachN d * C) = 0 := by
    split at h'
    · assumption
    · omega
  rw [if_pos hmod] at h'
  have hR : unbR B d (eachN d) (B.length / eachN d) = true := by
    split at h'
    · assumption
    · omega
  obtain ⟨M, hM⟩ : ∃ M, B.length / (eachN d * C) = M := ⟨_, rfl⟩
  have hlen : B.length = eachN d * (M * C) := by
    have h1 := Nat.div_add_mod B.length (eachN d * C)
    rw [hmod, hM, Nat.add_zero] at h1
    rw [← h1, Nat.mul_assoc, Nat.mul_comm M C]
  unfold unbR at hR
  rw [hlen, Nat.mul_div_cancel_left _ he, List.all_eq_true] at hR
  have hsm : ∀ x, x < M * C → smp (unbL B (eachN d) C M) x = snum (chunk B (eachN d) x) := by
    intro x hx
    unfold unbL
    rw [grid_smp_at _ hx hC1]
    have := Nat.div_add_mod x C
    rw [Nat.mul_comm] at this
    rw [this]
  have hLl : (unbL B (eachN d) C M).length = C := gridF_length _ _ _
  have hLm : manyN (unbL B (eachN d) C M) = M := grid_many hC1 _
  refine ⟨unbL B (eachN d) C M, ?_, ?_, ?_, ?_⟩
  · unfold unbSound
    rw [if_pos h, Int.toNat_natCast, hM]
  · unfold chkE
    rw [hLl, if_pos hk]
    have hev : ∀ j, j < (unbL B (eachN d) C M).length → ((unbL B (eachN d) C M).getD j []).length = manyN (unbL B (eachN d) C M) := by
      intro j hj
      rw [hLl] at hj
      rw [hLm]
      exact gridF_row_len _ _ _ hj
    rw [if_pos (even_of hev), if_pos]
    refine range_of hev (fun x hx => ?_)
    rw [hLl, hLm] at hx
    rw [hsm x hx]
    exact hR x (List.mem_range.2 hx)
  · unfold bytesOf
    rw [hLl, hLm]
    have : ∀ x ∈ List.range (M * C), sb (smp (unbL B (eachN d) C M) x) (eachN d) = chunk B (eachN d) x := by
      intro x hx
      have hx' := List.mem_range.1 hx
      rw [hsm x hx']
      have h1 := sb_snum (chunk B (eachN d) x) (fun b hb => hB b (List.mem_of_mem_drop (List.mem_of_mem_take hb)))
      rwa [chunk_len B (eachN d) (M * C) x hlen hx'] at h1
    rw [show (List.range (M * C)).flatMap (fun x => sb (smp (unbL B (eachN d) C M) x) (eachN d)) = (List.range (M * C)).flatMap (fun x => chunk B (eachN d) x) from flat_congr this]
    exact flat_chunk B (eachN d) (M * C) hlen
  · rw [hLm, hlen]
    have h1 : M ≤ M * C := Nat.le_mul_of_pos_right _ hC1
    have h2 : M * C ≤ eachN d * (M * C) := Nat.le_mul_of_pos_left _ he
    omega

theorem unb_bad_len {B : List Nat} {r d c : Int} (h : unbE B r d c ≠ 0) : unbSound B r d c = (0, 0, []) := by
  unfold unbSound
  rw [if_neg h]

end Go.Proofs.Ytpiongdkfebchaa
