/- The bits of a section of few numbers in few parts are few. No walk. -/
import Derived.Test.YtlbnjclchmnomaaSecNums
namespace Go.Proofs.Ytlbnjclchmnomaa
open Go.RowKit Bx

theorem flat_len_le {α : Type} {f : α → List Bool} {c : Nat} : ∀ (l : List α), (∀ x ∈ l, (f x).length ≤ c) → (l.flatMap f).length ≤ l.length * c := by
  intro l
  induction l with
  | nil => intro _; simp
  | cons x l ih =>
    intro h
    have h1 := ih (fun y hy => h y (by simp [hy]))
    have h2 := h x (by simp)
    simp only [List.flatMap_cons, List.length_append, List.length_cons, Nat.succ_mul]
    omega

theorem nb_small {wd : Bool} {Q : List Int} {k : Int} {r : Bool} (h : PartOk wd Q k r) : ∀ n ∈ Q, (nb r k n).length ≤ 65600 := by
  intro n hn
  cases r with
  | true =>
    have h1 := h.put.k1
    simp only [nb, if_pos, dg_length]
    omega
  | false =>
    have h2 : kk k ≤ 30 := by unfold kk; omega
    have e : nb false k n = rbits n k := by simp [nb]
    rw [e, rbits_length]
    unfold rlen
    obtain ⟨i, hi, rfl⟩ := List.getElem_of_mem hn
    have h3 := (h.put.near rfl i hi).2
    rw [show Q.getD i 0 = Q[i] by simp [List.getD, hi]] at h3
    omega

theorem ptb_small {wd : Bool} {Q : List Int} {k : Int} {r : Bool} (h : PartOk wd Q k r) (hl : Q.length ≤ 60) : (ptb wd Q (k, r)).length ≤ 3936010 := by
  have h1 := flat_len_le (f := nb r k) Q (nb_small h)
  have h2 : Q.length * 65600 ≤ 60 * 65600 := Nat.mul_le_mul_right _ hl
  have h3 := wA_le wd
  unfold ptb
  rw [List.length_append]
  have h4 : (ahb wd (k, r)).length ≤ 10 := by
    unfold ahb
    split <;> simp only [List.length_append, dg_length] <;> omega
  simp only
  omega

theorem spB_small {L : List Int} {k : Nat} {wd : Bool} {o : Int} {ps : List (Int × Bool)} (h : ¬ pbits (pcz L (ctI L.length (k : Int) o)) ps (wM wd) (wA wd) < 0) (h2 : lngs (pcz L (ctI L.length (k : Int) o)) ps = false) (hl : L.length ≤ 60) (hp : ps.length ≤ 100) : (spB L (k : Int) wd o ps).length ≤ 400000006 := by
  obtain ⟨O, rfl, hco, hps, hok, hct⟩ := plan_ok h h2
  rw [(spE_good h h2).2, Int.toNat_natCast, hct]
  unfold secB
  rw [List.length_append]
  have h3 := flat_len_le (f := pti wd (pcz L (cts L.length k O)) ps) (c := 3936010) (List.range (pcz L (cts L.length k O)).length) (fun i hi => by
    rw [List.mem_range, pcz_length] at hi
    refine ptb_small (hok i hi) ?_
    rw [pcz_get L _ i hi, List.length_take, List.length_drop]
    omega)
  rw [List.length_range] at h3
  have e : (pcz L (cts L.length k O)).length = ps.length := by rw [pcz_length, hps]
  rw [e] at h3 ⊢
  have h4 : ps.length * 3936010 ≤ 100 * 3936010 := Nat.mul_le_mul_right _ hp
  have h5 : (hdb wd O).length = 6 := by simp [hdb, dg_length]
  omega

end Go.Proofs.Ytlbnjclchmnomaa
