/- Plans: how a block is cut, how many bits a plan has, which is the first one with fewest: all in numbers. No program. -/
import Derived.Test.YtlbnjclchmnomaaPk8

namespace Go.Proofs.Ytlbnjclchmnomaa

/-- Can a block of n numbers that are left, by the order k, be cut by o? -/
def cutOk (n k o : Nat) : Bool := decide (o ≤ 15) && (decide ((n + k) % 2 ^ o = 0) && decide (k < (n + k) / 2 ^ o))

theorem cutOk_iff (n k o : Nat) : cutOk n k o = true ↔ o ≤ 15 ∧ (n + k) % 2 ^ o = 0 ∧ k < (n + k) / 2 ^ o := by
  simp [cutOk]

/-- How many numbers each part has. -/
def cts (n k o : Nat) : List Nat := if cutOk n k o = true then ((n + k) / 2 ^ o - k) :: List.replicate (2 ^ o - 1) ((n + k) / 2 ^ o) else []

def ctI (n : Nat) (k o : Int) : List Nat := if 0 ≤ k ∧ 0 ≤ o then cts n k.toNat o.toNat else []

theorem ctI_nat (n k o : Nat) : ctI n (k : Int) (o : Int) = cts n k o := by
  unfold ctI
  rw [if_pos ⟨by omega, by omega⟩]
  simp

theorem cutOk_down {n k o : Nat} (h : cutOk n k (o + 1) = true) : cutOk n k o = true ∧ (n + k) / 2 ^ o = 2 * ((n + k) / 2 ^ (o + 1)) := by
  rw [cutOk_iff] at h
  obtain ⟨h1, h2, h3⟩ := h
  have hp := Nat.two_pow_pos o
  have e : n + k = 2 ^ o * (2 * ((n + k) / 2 ^ (o + 1))) := by
    have := Nat.div_add_mod (n + k) (2 ^ (o + 1))
    rw [h2, Nat.pow_succ, Nat.add_zero] at this
    rw [← Nat.mul_assoc, Nat.pow_succ]
    exact this.symm
  have e2 : (n + k) / 2 ^ o = 2 * ((n + k) / 2 ^ (o + 1)) := Nat.div_eq_of_eq_mul_right hp e
  have e3 : (n + k) % 2 ^ o = 0 := by
    rw [e]
    exact Nat.mul_mod_right _ _
  refine ⟨(cutOk_iff _ _ _).2 ⟨by omega, e3, ?_⟩, e2⟩
  rw [e2]
  omega

theorem cutOk_le {n k o p : Nat} (h : cutOk n k p = true) (hop : o ≤ p) : cutOk n k o = true := by
  obtain ⟨j, rfl⟩ : ∃ j, p = o + j := ⟨p - o, by omega⟩
  clear hop
  induction j with
  | zero => exact h
  | succ j ih => exact ih (cutOk_down h).1

theorem cutOk_zero {n : Nat} (k : Nat) (h : 0 < n) : cutOk n k 0 = true := by
  rw [cutOk_iff]
  simp
  omega

theorem cutOk_pos {n k o : Nat} (h : cutOk n k o = true) : 0 < n := by
  have := (cutOk_iff n k 0).1 (cutOk_le h (Nat.zero_le _))
  simp at this
  omega

theorem cts_length {n k o : Nat} (h : cutOk n k o = true) : (cts n k o).length = 2 ^ o := by
  have := Nat.two_pow_pos o
  unfold cts
  rw [if_pos h]
  simp
  omega

theorem cts_none {n k o : Nat} (h : cutOk n k o = false) : cts n k o = [] := by
  unfold cts
  rw [if_neg (by simp [h])]

theorem cts_nil {n k o : Nat} : cts n k o = [] ↔ cutOk n k o = false := by
  constructor
  · intro h
    cases hc : cutOk n k o with
    | false => rfl
    | true =>
      have := cts_length hc
      have hp := Nat.two_pow_pos o
      rw [h] at this
      simp at this
      omega
  · exact cts_none

theorem sum_rep (m s : Nat) : (List.replicate m s).sum = m * s := by
  induction m with
  | zero => simp
  | succ m ih => rw [List.replicate_succ, List.sum_cons, ih, Nat.succ_mul]; omega

theorem cut_block {n k o : Nat} (h : cutOk n k o = true) : n + k = 2 ^ o * ((n + k) / 2 ^ o) ∧ k < (n + k) / 2 ^ o := by
  obtain ⟨h1, h2, h3⟩ := (cutOk_iff _ _ _).1 h
  have := Nat.div_add_mod (n + k) (2 ^ o)
  exact ⟨by omega, h3⟩

theorem cts_sum {n k o : Nat} (h : cutOk n k o = true) : (cts n k o).sum = n := by
  obtain ⟨h1, h2⟩ := cut_block h
  have hp := Nat.two_pow_pos o
  unfold cts
  rw [if_pos h, List.sum_cons, sum_rep]
  generalize (n + k) / 2 ^ o = s at *
  generalize 2 ^ o = p at *
  obtain ⟨q, rfl⟩ : ∃ q, p = q + 1 := ⟨p - 1, by omega⟩
  rw [Nat.add_sub_cancel, Nat.add_mul] at *
  omega

theorem cts_sum_le (n k o : Nat) : (cts n k o).sum ≤ n := by
  cases h : cutOk n k o with
  | true => rw [cts_sum h]; exact Nat.le_refl _
  | false => rw [cts_none h]; exact Nat.zero_le _

theorem cts_length_le (n k o : Nat) : (cts n k o).length ≤ 32768 := by
  cases h : cutOk n k o with
  | true =>
    rw [cts_length h]
    have := ((cutOk_iff _ _ _).1 h).1
    exact Nat.pow_le_pow_right (n := 2) (by decide) this
  | false => rw [cts_none h]; exact Nat.zero_le _

theorem cts_get {n k o i : Nat} (h : cutOk n k o = true) (hi : i < 2 ^ o) : (cts n k o).getD i 0 = if i = 0 then (n + k) / 2 ^ o - k else (n + k) / 2 ^ o := by
  unfold cts
  rw [if_pos h]
  cases i with
  | zero => simp
  | succ i =>
    rw [if_neg (by omega)]
    simp only [List.getD_eq_getElem?_getD, List.getElem?_cons_succ, List.getElem?_replicate]
    rw [if_pos (by omega)]
    rfl

/-- Numbers as integers. -/
def ni (C : List Nat) : List Int := C.map (fun c : Nat => (c : Int))

theorem ni_length (C : List Nat) : (ni C).length = C.length := by simp [ni]
theorem ni_get (C : List Nat) (i : Nat) : (ni C).getD i 0 = ((C.getD i 0 : Nat) : Int) := by
  unfold ni
  simp only [List.getD_eq_getElem?_getD, List.getElem?_map]
  cases C[i]? <;> simp
theorem ni_append (A B : List Nat) : ni (A ++ B) = ni A ++ ni B := by simp [ni]
theorem ni_take (A : List Nat) (i : Nat) : (ni A).take i = ni (A.take i) := by simp [ni, List.map_take]

theorem ctI_length_le (n : Nat) (k o : Int) : (ctI n k o).length ≤ 32768 := by
  unfold ctI
  split
  · exact cts_length_le _ _ _
  · exact Nat.zero_le _
theorem ctI_sum_le (n : Nat) (k o : Int) : (ctI n k o).sum ≤ n := by
  unfold ctI
  split
  · exact cts_sum_le _ _ _
  · exact Nat.zero_le _

/-- The numbers of each part. -/
def pcz : List Int → List Nat → List (List Int)
  | _, [] => []
  | L, c :: C => L.take c :: pcz (L.drop c) C

theorem pcz_length (L : List Int) (C : List Nat) : (pcz L C).length = C.length := by
  induction C generalizing L with
  | nil => rfl
  | cons c C ih => simp [pcz, ih]

theorem pcz_lens (L : List Int) (C : List Nat) (h : C.sum ≤ L.length) : (pcz L C).map List.length = C := by
  induction C generalizing L with
  | nil => rfl
  | cons c C ih =>
    rw [List.sum_cons] at h
    simp only [pcz, List.map_cons, List.length_take]
    rw [ih _ (by rw [List.length_drop]; omega), Nat.min_eq_left (by omega)]

theorem pcz_get (L : List Int) (C : List Nat) (i : Nat) (hi : i < C.length) : (pcz L C).getD i [] = (L.drop (C.take i).sum).take (C.getD i 0) := by
  induction C generalizing L i with
  | nil => simp at hi
  | cons c C ih =>
    cases i with
    | zero => simp [pcz]
    | succ i =>
      have := ih (L.drop c) i (by simpa using hi)
      simp only [pcz, List.getD_cons_succ, List.take_succ_cons, List.sum_cons]
      rw [this, List.drop_drop]

theorem pcz_nrs (L : List Int) (C : List Nat) (h : nrs L = true) : ∀ Q ∈ pcz L C, nrs Q = true := by
  have sub : ∀ A B : List Int, nrs (A ++ B) = true → nrs A = true ∧ nrs B = true := fun A B h => by rw [nrs_append] at h; simpa using h
  induction C generalizing L with
  | nil => intro Q hQ; simp [pcz] at hQ
  | cons c C ih =>
    intro Q hQ
    have h2 := sub (L.take c) (L.drop c) (by rw [List.take_append_drop]; exact h)
    rcases List.mem_cons.1 hQ with rfl | hQ
    · exact h2.1
    · exact ih _ h2.2 Q hQ

/-- How many numbers parts have together. -/
def tl (P : List (List Int)) : Nat := (P.map List.length).sum

theorem tl_append (A B : List (List Int)) : tl (A ++ B) = tl A + tl B := by simp [tl]
theorem tl_cons (Q : List Int) (B : List (List Int)) : tl (Q :: B) = Q.length + tl B := by simp [tl]
theorem tl_pcz (L : List Int) (C : List Nat) : tl (pcz L C) ≤ L.length := by
  induction C generalizing L with
  | nil => simp [pcz, tl]
  | cons c C ih =>
    have := ih (L.drop c)
    rw [List.length_drop] at this
    simp only [pcz, tl_cons, List.length_take]
    omega
theorem tl_take (P : List (List Int)) (i : Nat) : tl (P.take i) ≤ tl P := by
  have h : tl P = tl (P.take i) + tl (P.drop i) := by rw [← tl_append, List.take_append_drop]
  omega
theorem tl_get (P : List (List Int)) (i : Nat) (hi : i < P.length) : (P.getD i []).length ≤ tl P := by
  induction P generalizing i with
  | nil => simp at hi
  | cons Q P ih =>
    rw [tl_cons]
    cases i with
    | zero => simp
    | succ i =>
      have := ih i (by simpa using hi)
      simp only [List.getD_cons_succ]
      omega

/-- Parts put together, two by two. -/
def prs : List (List Int) → List (List Int)
  | a :: b :: R => (a ++ b) :: prs R
  | _ => []

def prN (g : Nat → Nat → Nat) : List Nat → List Nat
  | a :: b :: R => g a b :: prN g R
  | _ => []

theorem prs_map (f : List Int → Nat) (g : Nat → Nat → Nat) (h : ∀ a b, f (a ++ b) = g (f a) (f b)) : ∀ P, (prs P).map f = prN g (P.map f)
  | [] => rfl
  | [_] => rfl
  | a :: b :: R => by simp only [prs, List.map_cons, prN, h, prs_map f g h R]

theorem prN_length (g : Nat → Nat → Nat) : ∀ C : List Nat, (prN g C).length = C.length / 2
  | [] => by simp [prN]
  | [_] => by simp [prN]
  | a :: b :: R => by simp only [prN, List.length_cons, prN_length g R]; omega

theorem prN_get (g : Nat → Nat → Nat) : ∀ (C : List Nat) (i : Nat), i < C.length / 2 → (prN g C).getD i 0 = g (C.getD (2 * i) 0) (C.getD (2 * i + 1) 0)
  | [], i, h => by simp at h
  | [_], i, h => by simp at h
  | a :: b :: R, 0, _ => by simp [prN]
  | a :: b :: R, i + 1, h => by
    have := prN_get g R i (by simp only [List.length_cons] at h; omega)
    rw [show 2 * (i + 1) = 2 * i + 1 + 1 by omega]
    simpa [prN] using this

theorem pcz_pairs : ∀ (C : List Nat) (L : List Int), prs (pcz L C) = pcz L (prN (· + ·) C)
  | [], _ => rfl
  | [_], _ => rfl
  | a :: b :: R, L => by
    simp only [pcz, prs, prN]
    rw [pcz_pairs R, List.drop_drop, List.take_add]

theorem prN_rep (g : Nat → Nat → Nat) (s m : Nat) : prN g (List.replicate (2 * m) s) = List.replicate m (g s s) := by
  induction m with
  | zero => rfl
  | succ m ih =>
    rw [show 2 * (m + 1) = 2 * m + 1 + 1 by omega, List.replicate_succ, List.replicate_succ, List.replicate_succ]
    simp only [prN, ih]

theorem prN_cts {n k o : Nat} (h : cutOk n k (o + 1) = true) : prN (· + ·) (cts n k (o + 1)) = cts n k o := by
  obtain ⟨h1, h2⟩ := cutOk_down h
  have h3 := ((cutOk_iff _ _ _).1 h).2.2
  have hp := Nat.two_pow_pos o
  unfold cts
  rw [if_pos h, if_pos h1, h2]
  generalize (n + k) / 2 ^ (o + 1) = s at *
  have e : 2 ^ (o + 1) - 1 = 2 * (2 ^ o - 1) + 1 := by rw [Nat.pow_succ]; omega
  rw [e, List.replicate_succ]
  simp only [prN]
  rw [prN_rep]
  congr 1
  · omega
  · congr 1; omega

theorem pcz_down (L : List Int) {n k o : Nat} (h : cutOk n k (o + 1) = true) : prs (pcz L (cts n k (o + 1))) = pcz L (cts n k o) := by
  rw [pcz_pairs, prN_cts h]

theorem prs_nrs : ∀ P : List (List Int), (∀ Q ∈ P, nrs Q = true) → ∀ Q ∈ prs P, nrs Q = true
  | [], _, Q, hQ => by simp [prs] at hQ
  | [_], _, Q, hQ => by simp [prs] at hQ
  | a :: b :: R, h, Q, hQ => by
    rcases List.mem_cons.1 hQ with rfl | hQ
    · rw [nrs_append, h a (by simp), h b (by simp)]; rfl
    · exact prs_nrs R (fun Q hQ => h Q (by simp [hQ])) Q hQ

/-- The rows end there: no part has fewer bits by any k behind it. -/
structure Stp (P : List (List Int)) (K g : Nat) : Prop where
  lo : 1 ≤ K
  hi : K ≤ g + 1
  up : K = g + 1 ∨ ∀ Q ∈ P, sN Q (K - 1) ≤ sN Q K

theorem prs_up (K : Nat) : ∀ P : List (List Int), (∀ Q ∈ P, sN Q (K - 1) ≤ sN Q K) → ∀ Q ∈ prs P, sN Q (K - 1) ≤ sN Q K
  | [], _, Q, hQ => by simp [prs] at hQ
  | [_], _, Q, hQ => by simp [prs] at hQ
  | a :: b :: R, h, Q, hQ => by
    rcases List.mem_cons.1 hQ with rfl | hQ
    · have h1 := h a (by simp)
      have h2 := h b (by simp)
      rw [sN_append, sN_append]
      omega
    · exact prs_up K R (fun Q hQ => h Q (by simp [hQ])) Q hQ

theorem Stp.pair {P : List (List Int)} {K g : Nat} (h : Stp P K g) : Stp (prs P) K g :=
  ⟨h.lo, h.hi, h.up.imp id (prs_up K P)⟩

theorem bk_flat {L : List Int} {b : Nat} (h : sN L b ≤ sN L (b + 1)) : ∀ j, bk L (b + j) = bk L b := by
  have hup : ∀ j, sN L b ≤ sN L (b + j) := by
    intro j
    induction j with
    | zero => exact Nat.le_refl _
    | succ j ih => exact Nat.le_trans ih (sN_up h j)
  intro j
  induction j with
  | zero => rfl
  | succ j ih =>
    have h1 := hup (j + 1)
    have h2 := bk_least L b b (Nat.le_refl _)
    rw [← Nat.add_assoc, bk, ih, if_neg (by rw [← Nat.add_assoc] at h1; omega)]

theorem bk_cut {P : List (List Int)} {K g m : Nat} (h : Stp P K g) {Q : List Int} (hQ : Q ∈ P) (hm : m ≤ g) : bk Q (min (m + 1) K - 1) = bk Q m := by
  have h1 := h.lo
  by_cases hK : m + 1 ≤ K
  · rw [Nat.min_eq_left hK, Nat.add_sub_cancel]
  · rw [Nat.min_eq_right (by omega)]
    rcases h.up with h2 | h2
    · have := h.hi; omega
    · obtain ⟨b, rfl⟩ : ∃ b, K = b + 1 := ⟨K - 1, by omega⟩
      have := bk_flat (h2 Q hQ) (m - b)
      rw [Nat.add_sub_cancel] at this ⊢
      rw [show b + (m - b) = m by omega] at this
      exact this.symm

/-- The rows of bits, k by k. -/
def rws (P : List (List Int)) (K : Nat) : List (List Nat) := (List.range K).map (fun k => P.map (fun Q => sN Q k))

theorem rws_length (P : List (List Int)) (K : Nat) : (rws P K).length = K := by simp [rws]
theorem rws_get (P : List (List Int)) (K k : Nat) (h : k < K) : (rws P K).getD k [] = P.map (fun Q => sN Q k) := by
  simp [rws, List.getD, h]
theorem rws_succ (P : List (List Int)) (K : Nat) : rws P (K + 1) = rws P K ++ [P.map (fun Q => sN Q K)] := by
  simp [rws, List.range_succ]

/-- The best way of each part, and how many bits they have, each with so many ahead. -/
def bps (P : List (List Int)) (m : Nat) : List (Int × Bool) := P.map (fun Q => (bestK Q m, bestR Q m))
def psm (m a : Nat) : List (List Int) → Nat
  | [] => 0
  | Q :: P => (a + cbN Q m) + psm m a P

theorem bps_length (P : List (List Int)) (m : Nat) : (bps P m).length = P.length := by simp [bps]
theorem bps_get (P : List (List Int)) (m i : Nat) (h : i < P.length) : (bps P m).getD i (0, false) = (bestK (P.getD i []) m, bestR (P.getD i []) m) := by
  simp [bps, List.getD, h]
theorem bps_append (A B : List (List Int)) (m : Nat) : bps (A ++ B) m = bps A m ++ bps B m := by simp [bps]
theorem psm_append (m a : Nat) (A B : List (List Int)) : psm m a (A ++ B) = psm m a A + psm m a B := by
  induction A with
  | nil => simp [psm]
  | cons Q A ih => simp only [List.cons_append, psm, ih]; omega

theorem takeP (P : List (List Int)) (i : Nat) (h : i < P.length) : P.take (i + 1) = P.take i ++ [P.getD i []] := by
  rw [List.take_succ_eq_append_getElem h]
  simp [List.getD, h]

theorem bps_step (P : List (List Int)) (m i : Nat) (h : i < P.length) : bps (P.take (i + 1)) m = bps (P.take i) m ++ [(bestK (P.getD i []) m, bestR (P.getD i []) m)] := by
  rw [takeP P i h, bps_append]
  rfl
theorem psm_step (P : List (List Int)) (m a i : Nat) (h : i < P.length) : psm m a (P.take (i + 1)) = psm m a (P.take i) + (a + cbN (P.getD i []) m) := by
  rw [takeP P i h, psm_append]
  rfl

theorem cbN_big {Q : List Int} (h : nrs Q = true) (m : Nat) : cbN Q m ≤ Q.length * 17179869214 := by
  have h1 := sN_high h 0
  have h2 := cbN_least Q m 0 (Nat.zero_le _)
  have h3 : Q.length * (17179869184 + 0) ≤ Q.length * 17179869214 := Nat.mul_le_mul_left _ (by omega)
  omega

theorem psm_big (m a : Nat) : ∀ P : List (List Int), (∀ Q ∈ P, nrs Q = true) → psm m a P ≤ P.length * a + tl P * 17179869214
  | [], _ => by simp [psm]
  | Q :: P, h => by
    have h1 := cbN_big (h Q (by simp)) m
    have h2 := psm_big m a P (fun Q hQ => h Q (by simp [hQ]))
    simp only [psm, List.length_cons, tl_cons, Nat.add_mul, Nat.one_mul]
    omega

theorem psm_fits {P : List (List Int)} (h : ∀ Q ∈ P, nrs Q = true) (m a i : Nat) (ha : a ≤ 5) (hP : P.length ≤ 32768) (ht : tl P ≤ 1048576) : psm m a (P.take i) ≤ 20000000000000000 := by
  have h1 := psm_big m a (P.take i) (fun Q hQ => h Q (List.mem_of_mem_take hQ))
  have h2 := tl_take P i
  have h3 : (P.take i).length ≤ 32768 := by rw [List.length_take]; omega
  have h4 : (P.take i).length * a ≤ 32768 * 5 := Nat.mul_le_mul h3 ha
  have h5 : tl (P.take i) * 17179869214 ≤ 1048576 * 17179869214 := Nat.mul_le_mul_right _ (by omega)
  omega

/-- Does a part's way tell its bits? -/
def zok (m : Nat) (Q : List Int) (p : Int × Bool) : Bool := decide (0 ≤ ceach Q p.1 p.2) && (p.2 || (decide (0 ≤ p.1) && decide (p.1 ≤ (m : Int))))
def zall (m : Nat) : List (List Int) → List (Int × Bool) → Bool
  | Q :: P, p :: ps => zok m Q p && zall m P ps
  | _, _ => true
def zsum (a : Nat) : List (List Int) → List (Int × Bool) → Int
  | Q :: P, p :: ps => ((a : Int) + ceach Q p.1 p.2) + zsum a P ps
  | _, _ => 0

/-- How many bits a plan has. -/
def pbits (P : List (List Int)) (ps : List (Int × Bool)) (m a : Nat) : Int :=
  if P.length = 0 ∨ P.length ≠ ps.length ∨ zall m P ps = false then -1 else 6 + zsum a P ps

theorem zsum_step (a : Nat) : ∀ (P : List (List Int)) (ps : List (Int × Bool)) (i : Nat), i < P.length → i < ps.length →
    zsum a (P.take (i + 1)) (ps.take (i + 1)) = zsum a (P.take i) (ps.take i) + ((a : Int) + ceach (P.getD i []) (ps.getD i (0, false)).1 (ps.getD i (0, false)).2)
  | [], _, i, h, _ => by simp at h
  | _ :: _, [], i, _, h => by simp at h
  | Q :: P, p :: ps, 0, _, _ => by simp [zsum]
  | Q :: P, p :: ps, i + 1, h1, h2 => by
    have := zsum_step a P ps i (by simpa using h1) (by simpa using h2)
    simp only [List.take_succ_cons, zsum, List.getD_cons_succ] at this ⊢
    omega

theorem zall_step (m : Nat) : ∀ (P : List (List Int)) (ps : List (Int × Bool)) (i : Nat), i < P.length → i < ps.length →
    zall m (P.take (i + 1)) (ps.take (i + 1)) = (zall m (P.take i) (ps.take i) && zok m (P.getD i []) (ps.getD i (0, false)))
  | [], _, i, h, _ => by simp at h
  | _ :: _, [], i, _, h => by simp at h
  | Q :: P, p :: ps, 0, _, _ => by simp [zall]
  | Q :: P, p :: ps, i + 1, h1, h2 => by
    have := zall_step m P ps i (by simpa using h1) (by simpa using h2)
    simp only [List.take_succ_cons, zall, List.getD_cons_succ] at this ⊢
    rw [this, Bool.and_assoc]

theorem zall_not (m : Nat) : ∀ (P : List (List Int)) (ps : List (Int × Bool)) (i : Nat), i < P.length → i < ps.length → zok m (P.getD i []) (ps.getD i (0, false)) = false → zall m P ps = false
  | [], _, i, h, _, _ => by simp at h
  | _ :: _, [], i, _, h, _ => by simp at h
  | Q :: P, p :: ps, 0, _, _, h => by simp at h; simp [zall, h]
  | Q :: P, p :: ps, i + 1, h1, h2, h => by
    have := zall_not m P ps i (by simpa using h1) (by simpa using h2) (by simpa using h)
    simp [zall, this]

theorem ceach_big (Q : List Int) (k : Int) (r : Bool) : ceach Q k r ≤ 5 + (Q.length : Int) * 17179869214 := by
  unfold ceach
  split
  · split
    · next hc =>
      have : k * (Q.length : Int) ≤ 31 * (Q.length : Int) := Int.mul_le_mul_of_nonneg_right hc.2.2 (by omega)
      omega
    · omega
  · unfold cbits
    split
    · next hn =>
      have h1 := sN_high hn (kk k)
      have h2 := kk_le k
      have h3 : Q.length * (17179869184 + kk k) ≤ Q.length * 17179869214 := Nat.mul_le_mul_left _ (by omega)
      omega
    · omega

theorem zsum_big (m a : Nat) : ∀ (P : List (List Int)) (ps : List (Int × Bool)), zall m P ps = true → 0 ≤ zsum a P ps ∧ zsum a P ps ≤ (P.length : Int) * ((a : Int) + 5) + (tl P : Int) * 17179869214
  | [], _, _ => by simp [zsum, tl]
  | Q :: P, [], _ => by
    simp only [zsum]
    have h1 : (0 : Int) ≤ ((Q :: P).length : Int) * ((a : Int) + 5) := Int.mul_nonneg (by omega) (by omega)
    omega
  | Q :: P, p :: ps, h => by
    simp only [zall, Bool.and_eq_true] at h
    have h1 := zsum_big m a P ps h.2
    have h2 := h.1
    simp only [zok, Bool.and_eq_true, decide_eq_true_eq] at h2
    have h3 := ceach_big Q p.1 p.2
    simp only [zsum, List.length_cons, tl_cons]
    have e : ((P.length + 1 : Nat) : Int) * ((a : Int) + 5) = (P.length : Int) * ((a : Int) + 5) + ((a : Int) + 5) := by
      rw [show ((P.length + 1 : Nat) : Int) = (P.length : Int) + 1 by omega, Int.add_mul, Int.one_mul]
    rw [e]
    generalize (P.length : Int) * ((a : Int) + 5) = x at *
    omega

theorem zsum_fits {m a : Nat} {P : List (List Int)} {ps : List (Int × Bool)} (i : Nat) (ha : a ≤ 5) (hP : P.length ≤ 32768) (ht : tl P ≤ 1048576) (h : zall m (P.take i) (ps.take i) = true) : 0 ≤ zsum a (P.take i) (ps.take i) ∧ zsum a (P.take i) (ps.take i) ≤ 20000000000000000 := by
  obtain ⟨h1, h2⟩ := zsum_big m a _ _ h
  have h3 := tl_take P i
  have h4 : (P.take i).length ≤ 32768 := by rw [List.length_take]; omega
  have h5 : ((P.take i).length : Int) * ((a : Int) + 5) ≤ 32768 * ((a : Int) + 5) := Int.mul_le_mul_of_nonneg_right (by omega) (by omega)
  exact ⟨h1, by omega⟩

/-- Any way of a part has as many bits as its best one, or more. -/
theorem zok_least {m : Nat} {Q : List Int} {p : Int × Bool} (hm : m ≤ 30) (h : zok m Q p = true) : (cbN Q m : Int) ≤ ceach Q p.1 p.2 := by
  simp only [zok, Bool.and_eq_true, decide_eq_true_eq, Bool.or_eq_true] at h
  obtain ⟨h1, h2⟩ := h
  unfold ceach at h1 ⊢
  by_cases hr : p.2 = true
  · rw [if_pos hr] at h1 ⊢
    by_cases hc : nrs Q = true ∧ (cw Q : Int) ≤ p.1 ∧ p.1 ≤ 31
    · rw [if_pos hc]
      have h3 := cbN_raw Q m (by omega)
      have h4 : (cw Q : Int) * (Q.length : Int) ≤ p.1 * (Q.length : Int) := Int.mul_le_mul_of_nonneg_right hc.2.1 (by omega)
      rw [Nat.mul_comm] at h3
      have h5 : ((cw Q * Q.length : Nat) : Int) = (cw Q : Int) * (Q.length : Int) := by simp
      omega
    · rw [if_neg hc] at h1; omega
  · rw [if_neg hr] at h1 ⊢
    rcases h2 with h2 | h2
    · exact absurd h2 hr
    · unfold cbits at h1 ⊢
      by_cases hn : nrs Q = true
      · rw [if_pos hn]
        have : kk p.1 = p.1.toNat := by unfold kk; omega
        have h3 := cbN_least Q m p.1.toNat (by omega)
        rw [this]
        omega
      · rw [if_neg hn] at h1; omega

theorem zsum_least {m a : Nat} (hm : m ≤ 30) : ∀ (P : List (List Int)) (ps : List (Int × Bool)), P.length = ps.length → zall m P ps = true → (psm m a P : Int) ≤ zsum a P ps
  | [], [], _, _ => by simp [psm, zsum]
  | [], _ :: _, h, _ => by simp at h
  | _ :: _, [], h, _ => by simp at h
  | Q :: P, p :: ps, h1, h2 => by
    simp only [zall, Bool.and_eq_true] at h2
    have h3 := zsum_least (a := a) hm P ps (by simpa using h1) h2.2
    have h4 := zok_least hm h2.1
    simp only [psm, zsum]
    omega

theorem zok_best {Q : List Int} (h : nrs Q = true) (m : Nat) (hm : m ≤ 30) : zok m Q (bestK Q m, bestR Q m) = true ∧ ceach Q (bestK Q m) (bestR Q m) = (cbN Q m : Int) := by
  obtain ⟨h1, h2, h3, -⟩ := best_near h m
  have e : ceach Q (bestK Q m) (bestR Q m) = (cbN Q m : Int) := by
    rw [h1, h2]
    unfold cbK cbN
    cases hr : cbR Q m with
    | true =>
      rw [if_pos rfl, if_pos rfl]
      simp only [cbR, Bool.and_eq_true, decide_eq_true_eq] at hr
      unfold ceach
      rw [if_pos rfl, if_pos ⟨h, by omega, by omega⟩]
      simp [Int.mul_comm]
    | false =>
      rw [if_neg (by simp), if_neg (by simp)]
      have := bk_le Q m
      have e : kk ((bk Q m : Nat) : Int) = bk Q m := by unfold kk; omega
      unfold ceach cbits
      rw [if_neg (by simp), if_pos h, e]
  refine ⟨?_, e⟩
  simp only [zok, e, Bool.and_eq_true, decide_eq_true_eq, Bool.or_eq_true]
  rw [h1, h2]
  refine ⟨by omega, ?_⟩
  cases hr : cbR Q m with
  | true => exact .inl rfl
  | false =>
    right
    have := bk_le Q m
    unfold cbK
    rw [hr, if_neg (by simp)]
    omega

theorem pbits_best {P : List (List Int)} (h : ∀ Q ∈ P, nrs Q = true) (h0 : 0 < P.length) (m a : Nat) (hm : m ≤ 30) : pbits P (bps P m) m a = ((6 + psm m a P : Nat) : Int) := by
  have key : ∀ P : List (List Int), (∀ Q ∈ P, nrs Q = true) → zall m P (bps P m) = true ∧ zsum a P (bps P m) = (psm m a P : Int) := by
    intro P
    induction P with
    | nil => intro _; exact ⟨rfl, rfl⟩
    | cons Q P ih =>
      intro h
      obtain ⟨h1, h2⟩ := ih (fun Q hQ => h Q (by simp [hQ]))
      obtain ⟨h3, h4⟩ := zok_best (h Q (by simp)) m hm
      refine ⟨?_, ?_⟩
      · show (zok m Q (bestK Q m, bestR Q m) && zall m P (bps P m)) = true
        rw [h3, h1]; rfl
      · show ((a : Int) + ceach Q (bestK Q m) (bestR Q m)) + zsum a P (bps P m) = ((a + cbN Q m + psm m a P : Nat) : Int)
        rw [h4, h2]; omega
  obtain ⟨h1, h2⟩ := key P h
  unfold pbits
  rw [if_neg (by rw [bps_length, h1]; rintro (hh | hh | hh)
                 · omega
                 · exact hh rfl
                 · cases hh), h2]
  omega

/-- The first one of those up to N with least f. -/
def Fst (f : Nat → Nat) (N b : Nat) : Prop := b ≤ N ∧ (∀ i, i ≤ N → f b ≤ f i) ∧ ∀ i, i < b → f b < f i

def upA (f : Nat → Nat) : Nat → Nat
  | 0 => 0
  | i + 1 => if f (i + 1) < f (upA f i) then i + 1 else upA f i

theorem upA_fst (f : Nat → Nat) (N : Nat) : Fst f N (upA f N) := by
  induction N with
  | zero => exact ⟨Nat.le_refl _, fun i hi => by rw [Nat.le_zero.1 hi]; exact Nat.le_refl _, fun i hi => by simp [upA] at hi⟩
  | succ N ih =>
    obtain ⟨h1, h2, h3⟩ := ih
    simp only [upA]
    split
    · next h =>
      refine ⟨Nat.le_refl _, fun i hi => ?_, fun i hi => ?_⟩
      · by_cases hie : i = N + 1
        · rw [hie]; exact Nat.le_refl _
        · have := h2 i (by omega); omega
      · have := h2 i (by omega); omega
    · next h =>
      refine ⟨by omega, fun i hi => ?_, h3⟩
      by_cases hie : i = N + 1
      · rw [hie]; omega
      · exact h2 i (by omega)

theorem Fst.unique {f : Nat → Nat} {N a b : Nat} (h : Fst f N a) (h' : Fst f N b) : a = b := by
  obtain ⟨h1, h2, h3⟩ := h
  obtain ⟨k1, k2, k3⟩ := h'
  rcases Nat.lt_trichotomy a b with hl | he | hl
  · have := k3 a hl
    have := h2 b k1
    omega
  · exact he
  · have := h3 b hl
    have := k2 a h1
    omega

theorem upA_le (f : Nat → Nat) (N : Nat) : upA f N ≤ N := (upA_fst f N).1

/-- The greatest o up to most by which a block can be cut. -/
def fin (n k : Nat) : Nat → Nat
  | 0 => 0
  | m + 1 => if cutOk n k (m + 1) = true then m + 1 else fin n k m

theorem fin_le (n k m : Nat) : fin n k m ≤ m := by
  induction m with
  | zero => exact Nat.le_refl _
  | succ m ih => simp only [fin]; split <;> omega

theorem fin_ok {n k : Nat} (h : 0 < n) (m : Nat) : cutOk n k (fin n k m) = true := by
  induction m with
  | zero => exact cutOk_zero k h
  | succ m ih =>
    simp only [fin]
    split
    · next h => exact h
    · exact ih

theorem fin_no {n k m o : Nat} (h1 : fin n k m < o) (h2 : o ≤ m) : cutOk n k o = false := by
  induction m with
  | zero => simp [fin] at h1; omega
  | succ m ih =>
    simp only [fin] at h1
    split at h1
    · omega
    · next h =>
      by_cases ho : o = m + 1
      · rw [ho]
        simpa using h
      · exact ih h1 (by omega)

theorem fin_eq {n k m o : Nat} (h0 : 0 < n) (h1 : o ≤ m) (h2 : cutOk n k o = true) (h3 : o = m ∨ cutOk n k (o + 1) = false) : fin n k m = o := by
  have h4 := fin_ok (k := k) h0 m
  have h5 := fin_le n k m
  rcases Nat.lt_trichotomy (fin n k m) o with hl | he | hl
  · rw [fin_no hl h1] at h2; cases h2
  · exact he
  · rcases h3 with h3 | h3
    · omega
    · rw [cutOk_le h4 (by omega)] at h3; cases h3

/-- The plans of a block. -/
def wM (w : Bool) : Nat := if w = true then 30 else 14
def wA (w : Bool) : Nat := if w = true then 5 else 4

theorem wM_le (w : Bool) : wM w ≤ 30 := by cases w <;> decide
theorem wA_le (w : Bool) : wA w ≤ 5 := by cases w <;> decide

def plS (L : List Int) (k o : Nat) : List (List Int) := pcz L (cts L.length k o)
def plP (L : List Int) (k : Nat) (w : Bool) (o : Nat) : List (Int × Bool) := bps (plS L k o) (wM w)
def plN (L : List Int) (k : Nat) (w : Bool) (o : Nat) : Nat := 6 + psm (wM w) (wA w) (plS L k o)

theorem plS_length {L : List Int} {k o : Nat} (h : cutOk L.length k o = true) : (plS L k o).length = 2 ^ o := by
  unfold plS
  rw [pcz_length, cts_length h]

/-- The best plan: is it wide, and its order. -/
def bsW (L : List Int) (k most : Nat) (wide : Bool) : Bool := wide && decide (plN L k true (upA (plN L k true) (fin L.length k most)) < plN L k false (upA (plN L k false) (fin L.length k most)))
def bsO (L : List Int) (k most : Nat) (wide : Bool) : Nat := upA (plN L k (bsW L k most wide)) (fin L.length k most)

/-- All plans, one behind the other. -/
def plG (F i : Nat) : Bool × Nat := if i ≤ F then (false, i) else (true, i - F - 1)
def plGN (L : List Int) (k F i : Nat) : Nat := plN L k (plG F i).1 (plG F i).2

theorem plG_best (L : List Int) (k most : Nat) (wide : Bool) : ∀ F, F = fin L.length k most → plG F (upA (plGN L k F) (if wide = true then 2 * F + 1 else F)) = (bsW L k most wide, bsO L k most wide) := by
  rintro F hF
  have lowN : ∀ i, i ≤ F → plGN L k F i = plN L k false i := fun i hi => by unfold plGN plG; rw [if_pos hi]
  have highN : ∀ i, plGN L k F (F + 1 + i) = plN L k true i := fun i => by
    unfold plGN plG
    rw [if_neg (by omega), show F + 1 + i - F - 1 = i by omega]
  obtain ⟨a1, a2, a3⟩ := upA_fst (plN L k false) F
  obtain ⟨b1, b2, b3⟩ := upA_fst (plN L k true) F
  unfold bsO bsW
  rw [← hF]
  cases wide with
  | false =>
    simp only [Bool.false_and, Bool.false_eq_true, if_false]
    have : upA (plGN L k F) F = upA (plN L k false) F := by
      refine (upA_fst _ _).unique ⟨a1, fun i hi => ?_, fun i hi => ?_⟩
      · rw [lowN _ a1, lowN _ hi]; exact a2 i hi
      · rw [lowN _ a1, lowN _ (by omega)]; exact a3 i hi
    rw [this]
    unfold plG
    rw [if_pos a1]
  | true =>
    simp only [Bool.true_and, if_true]
    by_cases hlt : plN L k true (upA (plN L k true) F) < plN L k false (upA (plN L k false) F)
    · rw [decide_eq_true hlt]
      have : upA (plGN L k F) (2 * F + 1) = F + 1 + upA (plN L k true) F := by
        refine (upA_fst _ _).unique ⟨by omega, fun i hi => ?_, fun i hi => ?_⟩
        · rw [highN]
          by_cases hi2 : i ≤ F
          · rw [lowN _ hi2]; have := a2 i hi2; omega
          · obtain ⟨j, rfl⟩ : ∃ j, i = F + 1 + j := ⟨i - F - 1, by omega⟩
            rw [highN]; exact b2 j (by omega)
        · rw [highN]
          by_cases hi2 : i ≤ F
          · rw [lowN _ hi2]; have := a2 i hi2; omega
          · obtain ⟨j, rfl⟩ : ∃ j, i = F + 1 + j := ⟨i - F - 1, by omega⟩
            rw [highN]; exact b3 j (by omega)
      rw [this]
      unfold plG
      rw [if_neg (by omega), show F + 1 + upA (plN L k true) F - F - 1 = upA (plN L k true) F by omega]
    · rw [decide_eq_false hlt]
      have : upA (plGN L k F) (2 * F + 1) = upA (plN L k false) F := by
        refine (upA_fst _ _).unique ⟨by omega, fun i hi => ?_, fun i hi => ?_⟩
        · rw [lowN _ a1]
          by_cases hi2 : i ≤ F
          · rw [lowN _ hi2]; exact a2 i hi2
          · obtain ⟨j, rfl⟩ : ∃ j, i = F + 1 + j := ⟨i - F - 1, by omega⟩
            rw [highN]; have := b2 j (by omega); omega
        · rw [lowN _ a1, lowN _ (by omega)]; exact a3 i hi
      rw [this]
      unfold plG
      rw [if_pos a1]

end Go.Proofs.Ytlbnjclchmnomaa
