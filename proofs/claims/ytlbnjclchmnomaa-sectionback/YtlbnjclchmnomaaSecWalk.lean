/- What the walks of layer 15 share: bits of a writer's bytes; a slice of integers of any kind; a slice that grows. No walk. -/
import Derived.Test.YtlbnjclchmnomaaSecNums
namespace Go.Proofs.Ytlbnjclchmnomaa
open Go.RowKit Bx

theorem dg_self : ∀ (l : List Bool), dg l.length (num l) = l := by
  suffices h : ∀ (n : Nat) (l : List Bool), l.length = n → dg n (num l) = l from fun l => h l.length l rfl
  intro n
  induction n with
  | zero => intro l hl; have : l = [] := List.eq_nil_of_length_eq_zero hl; subst this; rfl
  | succ n ih =>
    intro l hl
    obtain ⟨i, x, rfl⟩ := snoc_of_pos l (by omega)
    rw [num_snoc]
    simp only [dg]
    have h1 : (2 * num i + x.toNat) / 2 = num i := by cases x <;> simp <;> omega
    have h2 : ((2 * num i + x.toNat) % 2 == 1) = x := by cases x <;> simp
    rw [h1, h2, ih i (by simpa using hl)]

theorem num_inj {l m : List Bool} (h : l.length = m.length) (hn : num l = num m) : l = m := by
  rw [← dg_self l, ← dg_self m, h, hn]

theorem pk_bitsOf {B : List Nat} {l : List Bool} {r : Nat} (h : Pk B (num l) l.length r) : bitsOf B = l ++ List.replicate r false := by
  have h8 := bitsOf_length B.length B rfl
  refine num_inj ?_ ?_
  · rw [List.length_append, List.length_replicate]
    have := h.2.1
    omega
  · rw [num_bitsOf B.length B rfl h.1, h.2.2.1, num_append, num_zeros, List.length_replicate]
    omega

theorem bitsOf_append (A B : List Nat) : bitsOf (A ++ B) = bitsOf A ++ bitsOf B := by simp [bitsOf]

theorem bitsOf_take (B : List Nat) (m : Nat) : bitsOf (B.take m) ++ bitsOf (B.drop m) = bitsOf B := by
  rw [← bitsOf_append, List.take_append_drop]

/-- The cell of a slice's number of any kind, in any world that kept it. -/
theorem cell_sort {w : World} {ao : Option Addr} {cap : Nat} {k : IntKind} {zs : List Int} {m : Nat} (hs : Sl w (.slice ao m cap) (zs.map (Value.int k))) (i : Nat) (hi : i < zs.length) : ∃ b off, ao = some ⟨b, off, none⟩ ∧ ∀ w', Kept Nix w w' → w'.cell? ⟨b, off + i, none⟩ = some (.int k (zs.getD i 0)) := by
  obtain ⟨ao', cap', e, _, _, hp⟩ := hs.ints
  simp only [Value.slice.injEq] at e
  obtain ⟨rfl, -, -⟩ := e
  obtain ⟨b, off, e1, hb, hc⟩ := hp (by omega)
  exact ⟨b, off, e1, fun w' hk' => (World.cell?_of_block (hk'.block _ hb id)).trans (hc i hi)⟩

theorem grow_step (i l : Nat) (hi : i < l) (hl : l ≤ 1000) : wrap64 ((i : Int) + 1) = ((i + 1 : Nat) : Int) ∧ (i : Int) < (l : Int) ∧ i + 1 ≤ maxLen ∧ (i + 1) * 8 ≤ 140737488355328 := by
  refine ⟨by rw [w64_in _ (by omega)]; omega, by omega, by simp only [maxLen]; omega, by omega⟩

theorem tk_next {L : List Int} {i : Nat} (h : i < L.length) : L.take (i + 1) = L.take i ++ [L.getD i 0] := by
  rw [List.take_succ_eq_append_getElem h]
  simp [List.getD, h]

theorem tm_in (n : Int) : wrap64 (n.tmod 1048577) = n.tmod 1048577 := by
  refine w64_in _ ?_
  rw [Int.tmod_eq_emod]
  split <;> omega

/-- What Take tells of the bytes that a section was put into. -/
theorem take_put {B : List Nat} {wd : Bool} {L : List Int} {k : Nat} {o : Int} {ps : List (Int × Bool)} {M : List Nat} (hpk : Pk B (num (spB L (k : Int) wd o ps)) (spB L (k : Int) wd o ps).length (pad (spB L (k : Int) wd o ps).length)) (hM : ∀ b ∈ M, b < 256)
    (h : ¬ pbits (pcz L (ctI L.length (k : Int) o)) ps (wM wd) (wA wd) < 0) (h2 : lngs (pcz L (ctI L.length (k : Int) o)) ps = false) (hk : k ≤ 32) (hn : L.length + k ≤ 65535) :
    ∃ O : Nat, o = (O : Int) ∧ ((L.any farN = false ∧ tkSec (B ++ M) 0 0 ((L.length + k : Nat) : Int) (k : Int) = ⟨wd, O, L, ps, (spB L (k : Int) wd o ps).length, 0, 0⟩) ∨ (L.any farN = true ∧ ∃ a f, tkSec (B ++ M) 0 0 ((L.length + k : Nat) : Int) (k : Int) = ⟨false, 0, [], [], a, f, 14⟩)) := by
  obtain ⟨O, rfl, hco, hl, hok, hct⟩ := plan_ok h h2
  refine ⟨O, rfl, ?_⟩
  have hsp := (spE_good h h2).2
  rw [Int.toNat_natCast, hct] at hsp
  rw [hsp] at hpk ⊢
  have hX : bitsOf (B ++ M) = secB wd O (pcz L (cts L.length k O)) ps ++ (List.replicate (pad (secB wd O (pcz L (cts L.length k O)) ps).length) false ++ bitsOf M) := by
    rw [bitsOf_append, pk_bitsOf hpk, List.append_assoc]
  have h3 := sec_on (B := B ++ M) (X := bitsOf (B ++ M)) (Y := []) (P := []) (R := List.replicate (pad (secB wd O (pcz L (cts L.length k O)) ps).length) false ++ bitsOf M) (wd := wd) (L := L) (k := k) (o := O) (ps := ps)
    (fun b hb => by rcases List.mem_append.1 hb with hb | hb; exact hpk.1 b hb; exact hM b hb) rfl (by rw [List.append_nil, List.nil_append]; exact hX) hco hk hn hl hok (Nat.zero_le _)
  simp only [List.length_nil, Nat.zero_add] at h3
  rcases h3 with ⟨-, g2, g3⟩ | ⟨g1, g2⟩ | ⟨g1, -⟩
  · exact .inl ⟨g2, g3⟩
  · exact .inr ⟨g1, g2⟩
  · rw [hX, List.length_append] at g1
    omega

/-- What Take tells of bytes of which some are cut off. -/
theorem take_cut {B : List Nat} {wd : Bool} {L : List Int} {k : Nat} {o : Int} {ps : List (Int × Bool)} {m : Nat} (hpk : Pk B (num (spB L (k : Int) wd o ps)) (spB L (k : Int) wd o ps).length (pad (spB L (k : Int) wd o ps).length)) (hm : m < B.length)
    (h : ¬ pbits (pcz L (ctI L.length (k : Int) o)) ps (wM wd) (wA wd) < 0) (h2 : lngs (pcz L (ctI L.length (k : Int) o)) ps = false) (hk : k ≤ 32) (hn : L.length + k ≤ 65535) (hf : L.any farN = false) :
    ∃ a f, tkSec (B.take m) 0 0 ((L.length + k : Nat) : Int) (k : Int) = ⟨false, 0, [], [], a, f, 2⟩ := by
  obtain ⟨O, rfl, hco, hl, hok, hct⟩ := plan_ok h h2
  have hsp := (spE_good h h2).2
  rw [Int.toNat_natCast, hct] at hsp
  rw [hsp] at hpk
  have hX : bitsOf (B.take m) ++ bitsOf (B.drop m) = secB wd O (pcz L (cts L.length k O)) ps ++ List.replicate (pad (secB wd O (pcz L (cts L.length k O)) ps).length) false := by
    rw [bitsOf_take B m, pk_bitsOf hpk]
  have h3 := sec_on (B := B.take m) (X := bitsOf (B.take m)) (Y := bitsOf (B.drop m)) (P := []) (R := List.replicate (pad (secB wd O (pcz L (cts L.length k O)) ps).length) false) (wd := wd) (L := L) (k := k) (o := O) (ps := ps)
    (fun b hb => hpk.1 b (List.mem_of_mem_take hb)) rfl (by rw [List.nil_append]; exact hX) hco hk hn hl hok (Nat.zero_le _)
  simp only [List.length_nil, Nat.zero_add] at h3
  have hlen := bitsOf_length (B.take m).length (B.take m) rfl
  rw [List.length_take, Nat.min_eq_left (by omega)] at hlen
  rcases h3 with ⟨g1, -, -⟩ | ⟨g1, -⟩ | ⟨-, g2⟩
  · exfalso
    have h8 := hpk.2.1
    unfold pad at h8
    omega
  · rw [hf] at g1; cases g1
  · exact g2

end Go.Proofs.Ytlbnjclchmnomaa
