/- What is taken of bits that are a section's, or begin as one: all in lists and numbers. No program. -/
import Derived.Test.YtlbnjclchmnomaaSecPut
namespace Go.Proofs.Ytlbnjclchmnomaa
open Go.RowKit Bx

theorem pk_bits (B : List Nat) (hB : ∀ b ∈ B, b < 256) : Pk B (num (bitsOf B)) (bitsOf B).length 0 := by
  have h := bitsOf_length B.length B rfl
  refine ⟨hB, by omega, ?_, ?_⟩
  · rw [num_bitsOf B.length B rfl hB]; simp
  · exact num_lt _ _ rfl

theorem pre_of {X Y A R : List Bool} (h : X ++ Y = A ++ R) (hl : A.length ≤ X.length) : ∃ S, X = A ++ S := by
  have h1 := congrArg (List.take A.length) h
  rw [List.take_append_of_le_length hl, List.take_left] at h1
  exact ⟨X.drop A.length, by rw [← h1, List.length_take, Nat.min_eq_left hl, List.take_append_drop]⟩

theorem rd_on {B : List Nat} {X Y P R : List Bool} {n k : Nat} (hB : ∀ b ∈ B, b < 256) (hX : bitsOf B = X) (h : X ++ Y = P ++ (dg k n ++ R)) :
    (P.length + k ≤ X.length → rval B P.length 0 k = n % 2 ^ k ∧ rat B P.length 0 k = P.length + k ∧ rfail B P.length 0 k = 0) ∧
    (X.length < P.length + k → rval B P.length 0 k = 0 ∧ rat B P.length 0 k = P.length ∧ rfail B P.length 0 k = 2) := by
  have h8 := bitsOf_length B.length B rfl
  rw [hX] at h8
  refine ⟨fun hl => ?_, fun hl => end_rval B P.length k (by omega)⟩
  obtain ⟨x1, x2, x3⟩ := in_rval B P.length k (by omega)
  refine ⟨?_, x2, x3⟩
  have hp := pk_bits B hB
  rw [hX] at hp
  rw [x1, part_pk hp P.length k hl]
  rw [← List.append_assoc] at h
  obtain ⟨S, hS⟩ := pre_of h (by rw [List.length_append, dg_length]; exact hl)
  rw [hS, List.append_assoc, List.drop_left, List.take_left' (dg_length _ _), num_dg]

theorem rd_off {B : List Nat} {a f k : Nat} (h : f ≠ 0) : rval B a f k = 0 ∧ rat B a f k = a ∧ rfail B a f k = f :=
  ⟨by simp [rval, short, h], by simp [rat, short, h], by simp [rfail, h]⟩

theorem tk_off {B : List Nat} {a f k : Nat} (h : f ≠ 0) : tkv B a f k = 0 ∧ tka B a f k = a ∧ tkf B a f k = f :=
  ⟨by rw [tkv, if_pos h], by rw [tka, if_pos h], by rw [tkf, if_pos h]⟩

theorem tkNum_off {B : List Nat} {p : Int × Bool} {a f : Nat} (h : f ≠ 0) : (tkNum B p a f).f = f := by
  unfold tkNum
  split
  · exact (rd_off h).2.2
  · exact (tk_off h).2.2

/-- A reader that has failed takes no number. -/
theorem tn_off {B : List Nat} {p : Int × Bool} {a f : Nat} (h : f ≠ 0) (c : Nat) (hc : 1 ≤ c) : (tn B p a f c).e = f := by
  have h1 : tkE (tkNum B p a f).f (tkNum B p a f).x = f := by unfold tkE; rw [tkNum_off h, if_pos h]
  have h2 := tn_fail (B := B) (p := p) (a := a) (f := f) (j := 0) rfl (by show tkE (tkNum B p a f).f (tkNum B p a f).x ≠ 0; rw [h1]; exact h)
  have h3 : (tn B p a f 1).e = f := by rw [h2]; exact h1
  have h4 := tn_stuck (B := B) (p := p) (a := a) (f := f) (j := 1) (by rw [h3]; exact h) (c - 1)
  rw [show 1 + (c - 1) = c by omega] at h4
  rw [h4, h3]

theorem tz_zeros {B : List Nat} {l : List Bool} (h : Pk B (num l) l.length 0) : ∀ z a, l.drop a = List.replicate z false → a + z = l.length → tz B a = z := by
  have hl := h.2.1
  intro z
  induction z with
  | zero =>
    intro a _ h2
    exact tz_end B a (by omega)
  | succ z ih =>
    intro a ha h2
    have hb : bt B a ≠ 1 := by
      have := part_pk h a 1 (by omega)
      rw [ha] at this
      have h3 : bt B a = 0 := by simpa [bt, num, List.replicate_succ] using this
      omega
    rw [tz_zero B a (by omega) hb]
    congr 1
    refine ih (a + 1) ?_ (by omega)
    rw [← List.drop_drop, ha]
    simp [List.replicate_succ]

/-- A number within K bits, its bits and their sign. -/
theorem sgn_back (K : Nat) (n : Int) (hK : K ≤ 31) (h : blen (fd n) ≤ K) : sgn K (u64n n % 2 ^ K) = n := by
  have h1 := (blen_iff _ _).2 h
  unfold sgn
  by_cases h0 : K = 0
  · subst h0
    rw [if_pos rfl]
    unfold fd at h1
    split at h1 <;> omega
  · rw [if_neg h0]
    obtain ⟨j, rfl⟩ : ∃ j, K = j + 1 := ⟨K - 1, by omega⟩
    rw [Nat.add_sub_cancel]
    have hp : 2 ^ j * 2 ^ (63 - j) = 9223372036854775808 := by rw [← Nat.pow_add, show j + (63 - j) = 63 by omega]
    have hp2 : (2 : Int) ^ (j + 1) = ((2 ^ (j + 1) : Nat) : Int) := by simp
    have hjs : 2 ^ j ≤ 1073741824 := Nat.pow_le_pow_right (n := 2) (by decide) (show j ≤ 30 by omega)
    have hjp := Nat.two_pow_pos j
    rw [hp2]
    rw [Nat.pow_succ] at h1 ⊢
    have hd : 18446744073709551616 = 2 ^ j * 2 * 2 ^ (63 - j) := by rw [Nat.mul_right_comm, hp]
    have hu : u64n n % (2 ^ j * 2) = (n % ((2 ^ j * 2 : Nat) : Int)).toNat := by
      unfold u64n
      rw [show (18446744073709551616 : Int) = ((2 ^ j * 2 * 2 ^ (63 - j) : Nat) : Int) by rw [← hd]; rfl]
      have e1 : (0 : Int) ≤ n % ((2 ^ j * 2 * 2 ^ (63 - j) : Nat) : Int) := Int.emod_nonneg _ (by have := Nat.two_pow_pos (63 - j); have h9 := Nat.mul_pos (Nat.mul_pos hjp (by decide : 0 < 2)) this; omega)
      have e2 : ((n % ((2 ^ j * 2 * 2 ^ (63 - j) : Nat) : Int)).toNat : Int) = n % ((2 ^ j * 2 * 2 ^ (63 - j) : Nat) : Int) := Int.toNat_of_nonneg e1
      have e3 : (((n % ((2 ^ j * 2 * 2 ^ (63 - j) : Nat) : Int)).toNat % (2 ^ j * 2) : Nat) : Int) = n % ((2 ^ j * 2 : Nat) : Int) := by
        rw [Int.natCast_emod, e2]
        exact Int.emod_emod_of_dvd n (by rw [Int.natCast_mul (2 ^ j * 2)]; exact Int.dvd_mul_right _ _)
      omega
    rw [hu]
    generalize 2 ^ j = H at *
    unfold fd at h1
    by_cases hn : 0 ≤ n
    · rw [if_pos hn] at h1
      have : n % ((H * 2 : Nat) : Int) = n := Int.emod_eq_of_lt hn (by omega)
      rw [this, if_pos (by omega)]
      omega
    · rw [if_neg hn] at h1
      have : n % ((H * 2 : Nat) : Int) = n + ((H * 2 : Nat) : Int) := by
        rw [← Int.add_emod_right, Int.emod_eq_of_lt (by omega) (by omega)]
      rw [this, if_neg (by omega)]
      omega

/-- A part that can be put and is taken back as it was. -/
structure PartOk (wd : Bool) (Q : List Int) (k : Int) (r : Bool) : Prop where
  put : PutOk Q k r
  top : r = false → k ≤ (wM wd : Int)
  raw : r = true → ∀ i, i < Q.length → blen (fd (Q.getD i 0)) ≤ k.toNat

theorem partOk_of {wd : Bool} {Q : List Int} {k : Int} {r : Bool} (h : zok (wM wd) Q (k, r) = true) (hl : lng Q (k, r) = false) : PartOk wd Q k r := by
  have hp := putOk_of (show wM wd ≤ 30 by cases wd <;> decide) h hl
  simp only [zok, Bool.and_eq_true, decide_eq_true_eq, Bool.or_eq_true] at h
  refine ⟨hp, fun hr => ?_, fun hr i hi => ?_⟩
  · subst hr
    rcases h.2 with h2 | h2
    · cases h2
    · exact h2.2
  · subst hr
    have h1 := h.1
    unfold ceach at h1
    rw [if_pos rfl] at h1
    split at h1
    · next h3 =>
      have := cw_get hi
      have := h3.2.1
      omega
    · omega

theorem num_on {B : List Nat} {X Y P R : List Bool} {n k : Int} {r : Bool} (hB : ∀ b ∈ B, b < 256) (hX : bitsOf B = X) (h : X ++ Y = P ++ (nb r k n ++ R)) (hk0 : 0 ≤ k) (hk : k ≤ 31) (hr : r = true → blen (fd n) ≤ k.toNat) :
    (P.length + (nb r k n).length ≤ X.length → tkNum B (k, r) P.length 0 = ⟨n, P.length + (nb r k n).length, 0⟩) ∧ (P.length ≤ X.length → X.length < P.length + (nb r k n).length → (tkNum B (k, r) P.length 0).f = 2) := by
  have h8 := bitsOf_length B.length B rfl
  have hpk := pk_bits B hB
  rw [hX] at h8 hpk
  cases r with
  | true =>
    have e : nb true k n = dg k.toNat (u64n n) := by simp [nb]
    rw [e] at h ⊢
    rw [dg_length]
    obtain ⟨g1, g2⟩ := rd_on hB hX h
    refine ⟨fun hl => ?_, fun _ hl => ?_⟩
    · obtain ⟨x1, x2, x3⟩ := g1 hl
      unfold tkNum
      rw [if_pos rfl]
      simp only
      rw [x1, x2, x3, sgn_back _ _ (by omega) (hr rfl)]
    · obtain ⟨x1, x2, x3⟩ := g2 hl
      unfold tkNum
      rw [if_pos rfl]
      exact x3
  | false =>
    have e : nb false k n = rbits n k := by simp [nb]
    rw [e] at h ⊢
    refine ⟨fun hl => ?_, fun hp hl => ?_⟩
    · rw [← List.append_assoc] at h
      obtain ⟨S, hS⟩ := pre_of h (by rw [List.length_append]; exact hl)
      rw [hS] at hpk
      obtain ⟨x1, x2, x3⟩ := take_back hpk
      unfold tkNum
      rw [if_neg (by simp)]
      simp only
      rw [x1, x2, x3]
    · obtain ⟨X', hX'⟩ := pre_of h hp
      have hrl := rbits_length n k
      have hlen : X.length = P.length + X'.length := by rw [hX', List.length_append]
      have hx2 : X' ++ Y = rbits n k ++ R := by
        rw [hX', List.append_assoc] at h
        exact List.append_cancel_left h
      have hx3 : X' = (rbits n k).take X'.length := by
        have h1 := congrArg (List.take X'.length) hx2
        rw [List.take_left, List.take_append_of_le_length (by omega)] at h1
        exact h1
      have hfin : ¬ P.length + tz B P.length + 1 + kk k ≤ 8 * B.length := by
        have hdr : X.drop P.length = X' := by rw [hX', List.drop_left]
        unfold rlen at hrl
        by_cases hm : X'.length ≤ fd n / 2 ^ kk k
        · have hz : X' = List.replicate X'.length false := by
            rw [hx3]
            unfold rbits
            rw [List.append_assoc, List.take_append_of_le_length (by simpa using hm), List.take_replicate]
            simp
          have := tz_zeros hpk X'.length P.length (by rw [hdr]; exact hz) (by omega)
          omega
        · have hz : ∃ rest, X' = List.replicate (fd n / 2 ^ kk k) false ++ true :: rest := by
            rw [hx3]
            unfold rbits
            obtain ⟨j, hj⟩ : ∃ j, X'.length = fd n / 2 ^ kk k + 1 + j := ⟨X'.length - (fd n / 2 ^ kk k + 1), by omega⟩
            refine ⟨(dg (kk k) (fd n)).take j, ?_⟩
            rw [hj, List.take_append, List.take_of_length_le (by simp)]
            simp
          obtain ⟨rest, hz⟩ := hz
          have := tz_run hpk rest (fd n / 2 ^ kk k) P.length (by rw [hdr]; exact hz)
          omega
      unfold tkNum
      rw [if_neg (by simp)]
      simp only [tkf]
      rw [if_neg (by simp), if_neg hfin]

/-- Numbers that are taken: as they were, as far as they are there and none is too wide. -/
theorem tn_on {B : List Nat} {X Y P R : List Bool} {Q : List Int} {k : Int} {r wd : Bool} (hB : ∀ b ∈ B, b < 256) (hX : bitsOf B = X) (h : X ++ Y = P ++ (Q.flatMap (nb r k) ++ R)) (hok : PartOk wd Q k r) (hP : P.length ≤ X.length) : ∀ j, j ≤ Q.length →
    (P.length + ((Q.take j).flatMap (nb r k)).length ≤ X.length ∧ (∀ i, i < j → farN (Q.getD i 0) = false) ∧ tn B (k, r) P.length 0 j = ⟨Q.take j, P.length + ((Q.take j).flatMap (nb r k)).length, 0, 0⟩) ∨
    ((tn B (k, r) P.length 0 j).e = 14 ∧ ∃ i, i < j ∧ farN (Q.getD i 0) = true) ∨
    ((tn B (k, r) P.length 0 j).e = 2 ∧ X.length < P.length + ((Q.take j).flatMap (nb r k)).length) := by
  intro j
  induction j with
  | zero => intro _; exact .inl ⟨by simpa using hP, fun i hi => absurd hi (Nat.not_lt_zero i), by simp [tn]⟩
  | succ j ih =>
    intro hj
    have hst := flat_step (Q := Q) (i := j) (by omega) r k
    rcases ih (by omega) with ⟨g1, g2, g3⟩ | ⟨g1, i, g2, g3⟩ | ⟨g1, g2⟩
    · have hsplit : Q.flatMap (nb r k) = (Q.take j).flatMap (nb r k) ++ (nb r k (Q.getD j 0) ++ (Q.drop (j + 1)).flatMap (nb r k)) := by
        have e : Q = Q.take (j + 1) ++ Q.drop (j + 1) := (List.take_append_drop _ _).symm
        have e2 : Q.flatMap (nb r k) = (Q.take (j + 1)).flatMap (nb r k) ++ (Q.drop (j + 1)).flatMap (nb r k) := by rw [← List.flatMap_append, ← e]
        rw [e2, hst, List.append_assoc]
      have h2 : X ++ Y = (P ++ (Q.take j).flatMap (nb r k)) ++ (nb r k (Q.getD j 0) ++ ((Q.drop (j + 1)).flatMap (nb r k) ++ R)) := by
        rw [h, hsplit]; simp only [List.append_assoc]
      obtain ⟨n1, n2⟩ := num_on hB hX h2 hok.put.k0 hok.put.k1 (fun hr => hok.raw hr j (by omega))
      rw [List.length_append] at n1 n2
      have he0 : (tn B (k, r) P.length 0 j).e = 0 := by rw [g3]
      by_cases hl : P.length + ((Q.take j).flatMap (nb r k)).length + (nb r k (Q.getD j 0)).length ≤ X.length
      · have hnum := n1 hl
        cases hf : farN (Q.getD j 0) with
        | false =>
          refine .inl ⟨by rw [hst, List.length_append]; omega, fun i hi => ?_, ?_⟩
          · by_cases hij : i = j
            · subst hij; exact hf
            · exact g2 i (by omega)
          · have := tn_step (B := B) (p := (k, r)) (a := P.length) (f := 0) he0 (by rw [g3]; simp only; rw [hnum]; unfold tkE; rw [if_neg (by simp), if_neg (by simp only; rw [hf]; decide)])
            rw [this, g3]
            simp only
            rw [hnum]
            simp only
            rw [hst, List.length_append, take_get (by omega), Nat.add_assoc]
        | true =>
          refine .inr (.inl ⟨?_, j, by omega, hf⟩)
          have he : tkE (tkNum B (k, r) (tn B (k, r) P.length 0 j).a (tn B (k, r) P.length 0 j).f).f (tkNum B (k, r) (tn B (k, r) P.length 0 j).a (tn B (k, r) P.length 0 j).f).x = 14 := by
            rw [g3]; simp only; rw [hnum]; unfold tkE; rw [if_neg (by simp), if_pos hf]
          have := tn_fail (B := B) (p := (k, r)) (a := P.length) (f := 0) he0 (by rw [he]; decide)
          rw [this]
          exact he
      · refine .inr (.inr ⟨?_, by rw [hst, List.length_append]; omega⟩)
        have hsh := n2 (by omega) (by omega)
        have he : tkE (tkNum B (k, r) (tn B (k, r) P.length 0 j).a (tn B (k, r) P.length 0 j).f).f (tkNum B (k, r) (tn B (k, r) P.length 0 j).a (tn B (k, r) P.length 0 j).f).x = 2 := by
          rw [g3]; simp only; unfold tkE; rw [hsh]; simp
        have := tn_fail (B := B) (p := (k, r)) (a := P.length) (f := 0) he0 (by rw [he]; decide)
        rw [this]
        exact he
    · refine .inr (.inl ⟨?_, i, by omega, g3⟩)
      have := tn_stuck (B := B) (p := (k, r)) (a := P.length) (f := 0) (j := j) (by rw [g1]; decide) 1
      rw [this]; exact g1
    · refine .inr (.inr ⟨?_, by rw [hst, List.length_append]; omega⟩)
      have := tn_stuck (B := B) (p := (k, r)) (a := P.length) (f := 0) (j := j) (by rw [g1]; decide) 1
      rw [this]; exact g1

theorem wA_pow (wd : Bool) : wM wd + 1 < 2 ^ wA wd ∧ wA wd ≤ 5 := by cases wd <;> decide

theorem part_on {B : List Nat} {X Y P R : List Bool} {wd : Bool} {Q : List Int} {k : Int} {r : Bool} (hB : ∀ b ∈ B, b < 256) (hX : bitsOf B = X) (h : X ++ Y = P ++ (ahb wd (k, r) ++ R)) (hok : PartOk wd Q k r) :
    (P.length + (ahb wd (k, r)).length ≤ X.length → tkPart B wd P.length 0 = ⟨(k, r), P.length + (ahb wd (k, r)).length, 0⟩) ∧ (X.length < P.length + (ahb wd (k, r)).length → (tkPart B wd P.length 0).f = 2) := by
  have hk0 := hok.put.k0
  have hk1 := hok.put.k1
  obtain ⟨hM, hA⟩ := wA_pow wd
  cases r with
  | true =>
    have e : ahb wd (k, true) = dg (wA wd) (wM wd + 1) ++ dg 5 k.toNat := by simp [ahb]
    rw [e] at h ⊢
    rw [List.length_append, dg_length, dg_length]
    rw [List.append_assoc] at h
    obtain ⟨g1, g2⟩ := rd_on hB hX h
    rw [Nat.mod_eq_of_lt hM] at g1
    rw [← List.append_assoc] at h
    have g3 := rd_on hB hX h
    rw [List.length_append, dg_length] at g3
    obtain ⟨g3, g4⟩ := g3
    unfold tkPart
    refine ⟨fun hl => ?_, fun hl => ?_⟩
    · obtain ⟨x1, x2, x3⟩ := g1 (by omega)
      obtain ⟨y1, y2, y3⟩ := g3 (by omega)
      rw [x1, if_pos rfl, x2, x3, y1, y2, y3, Nat.mod_eq_of_lt (by omega), Int.toNat_of_nonneg hk0, Nat.add_assoc]
    · by_cases h1 : P.length + wA wd ≤ X.length
      · obtain ⟨x1, x2, x3⟩ := g1 h1
        obtain ⟨y1, y2, y3⟩ := g4 (by omega)
        rw [x1, if_pos rfl, x2, x3]
        exact y3
      · obtain ⟨x1, x2, x3⟩ := g2 (by omega)
        rw [x1, if_neg (by omega)]
        exact x3
  | false =>
    have e : ahb wd (k, false) = dg (wA wd) k.toNat := by simp [ahb]
    rw [e] at h ⊢
    rw [dg_length]
    obtain ⟨g1, g2⟩ := rd_on hB hX h
    have ht := hok.top rfl
    unfold tkPart
    refine ⟨fun hl => ?_, fun hl => ?_⟩
    · obtain ⟨x1, x2, x3⟩ := g1 (by omega)
      rw [x1, Nat.mod_eq_of_lt (by omega), if_neg (by omega), x2, x3, Int.toNat_of_nonneg hk0]
    · obtain ⟨x1, x2, x3⟩ := g2 (by omega)
      rw [x1, if_neg (by omega)]
      exact x3

theorem ahead_on {B : List Nat} {X Y P R : List Bool} {wd : Bool} {o : Nat} (hB : ∀ b ∈ B, b < 256) (hX : bitsOf B = X) (h : X ++ Y = P ++ (hdb wd o ++ R)) (ho : o ≤ 15) :
    (P.length + 6 ≤ X.length → tkAhead B P.length 0 = ⟨wd, o, P.length + 6, 0, 0⟩) ∧ (X.length < P.length + 6 → (tkAhead B P.length 0).e = 2) := by
  unfold hdb at h
  rw [List.append_assoc] at h
  obtain ⟨g1, g2⟩ := rd_on hB hX h
  have hw : wd.toNat % 2 ^ 2 = wd.toNat := by cases wd <;> rfl
  rw [hw] at g1
  rw [← List.append_assoc] at h
  have g3 := rd_on hB hX h
  rw [List.length_append, dg_length, Nat.mod_eq_of_lt (show o < 2 ^ 4 by omega)] at g3
  obtain ⟨g3, g4⟩ := g3
  have hw1 : ¬ 1 < wd.toNat := by cases wd <;> decide
  have hw2 : (wd.toNat == 1) = wd := by cases wd <;> rfl
  unfold tkAhead
  refine ⟨fun hl => ?_, fun hl => ?_⟩
  · obtain ⟨x1, x2, x3⟩ := g1 (by omega)
    obtain ⟨y1, y2, y3⟩ := g3 (by omega)
    rw [x1, if_neg hw1, x2, x3, y1, y2, y3, hw2]
  · by_cases h1 : P.length + 2 ≤ X.length
    · obtain ⟨x1, x2, x3⟩ := g1 h1
      obtain ⟨y1, y2, y3⟩ := g4 (by omega)
      rw [x1, if_neg hw1, x2, x3]
      exact y3
    · obtain ⟨x1, x2, x3⟩ := g2 (by omega)
      rw [x1, if_neg (by decide), x2, x3]
      show rfail B P.length 2 4 = 2
      exact (rd_off (by decide)).2.2

theorem ptNext_e {B : List Nat} {wd : Bool} {C : List Nat} {s : PT} (h : s.e = 0) (i : Nat) : ptNext B wd C s i = ⟨lay s.ls (C.take i).sum (ptNums B wd C s i).xs, s.ps ++ [(tkPart B wd s.a s.f).p], (ptNums B wd C s i).a, (ptNums B wd C s i).f, (ptNums B wd C s i).e⟩ := by
  unfold ptNext
  rw [if_neg (by simp [h])]

theorem pts_take {ps : List (Int × Bool)} {i : Nat} (h : i < ps.length) : ps.take i ++ [((ps.getD i (0, false)).1, (ps.getD i (0, false)).2)] = ps.take (i + 1) := by
  have e : ps.getD i (0, false) = ps[i] := by simp [List.getD, h]
  rw [List.take_succ_eq_append_getElem h, e]

theorem lay_fill {L : List Int} {z c : Nat} (h : z + c ≤ L.length) : lay (L.take z ++ List.replicate (L.length - z) 0) z ((L.drop z).take c) = L.take (z + c) ++ List.replicate (L.length - (z + c)) 0 := by
  have h1 : (L.take z).length = z := by simp; omega
  have h2 : ((L.drop z).take c).length = c := by simp; omega
  have h3 : (L.take z ++ List.replicate (L.length - z) 0).drop (z + c) = List.replicate (L.length - (z + c)) (0 : Int) := by
    rw [List.drop_append, List.drop_of_length_le (by rw [h1]; omega), h1, List.nil_append, List.drop_replicate]
    congr 1
    omega
  unfold lay
  rw [h2, List.take_left' h1, h3, List.take_add]

theorem range_flat (f : Nat → List Bool) (i : Nat) : (List.range (i + 1)).flatMap f = (List.range i).flatMap f ++ f i := by
  rw [List.range_succ, List.flatMap_append]
  simp

theorem range_flat_split (f : Nat → List Bool) {i n : Nat} (h : i < n) : ∃ R, (List.range n).flatMap f = (List.range i).flatMap f ++ (f i ++ R) := by
  obtain ⟨r, hr⟩ := range_split (k := i + 1) (n := n) h
  exact ⟨r.flatMap f, by rw [hr, List.flatMap_append, range_flat, List.append_assoc]⟩

/-- Parts that are taken: as they were, as far as they are there and no number is too wide. -/
theorem fold_on {B : List Nat} {X Y P0 R : List Bool} {wd : Bool} {L : List Int} {C : List Nat} {ps : List (Int × Bool)} (hB : ∀ b ∈ B, b < 256) (hX : bitsOf B = X) (h : X ++ Y = P0 ++ ((List.range C.length).flatMap (pti wd (pcz L C) ps) ++ R))
    (hok : ∀ i, i < C.length → PartOk wd ((pcz L C).getD i []) (ps.getD i (0, false)).1 (ps.getD i (0, false)).2) (hs : C.sum = L.length) (hps : C.length = ps.length) (hc1 : ∀ i, i < C.length → 1 ≤ C.getD i 0) (hP : P0.length ≤ X.length) : ∀ i, i ≤ C.length →
    (P0.length + ((List.range i).flatMap (pti wd (pcz L C) ps)).length ≤ X.length ∧ (∀ j, j < i → ∀ m, m < ((pcz L C).getD j []).length → farN (((pcz L C).getD j []).getD m 0) = false) ∧
      ptFold B wd C (pts0 L.length P0.length 0) (List.range i) = ⟨L.take (C.take i).sum ++ List.replicate (L.length - (C.take i).sum) 0, ps.take i, P0.length + ((List.range i).flatMap (pti wd (pcz L C) ps)).length, 0, 0⟩) ∨
    ((ptFold B wd C (pts0 L.length P0.length 0) (List.range i)).e = 14 ∧ ∃ j, j < i ∧ ∃ m, m < ((pcz L C).getD j []).length ∧ farN (((pcz L C).getD j []).getD m 0) = true) ∨
    ((ptFold B wd C (pts0 L.length P0.length 0) (List.range i)).e = 2 ∧ X.length < P0.length + ((List.range i).flatMap (pti wd (pcz L C) ps)).length) := by
  intro i
  induction i with
  | zero => intro _; exact .inl ⟨by simpa using hP, fun j hj => absurd hj (Nat.not_lt_zero j), by simp [ptFold, pts0]⟩
  | succ i ih =>
    intro hi
    have hsn := sum_next C i (by omega)
    have hsl := sum_take_le C (i + 1)
    have hrf := range_flat (pti wd (pcz L C) ps) i
    have hpi : pti wd (pcz L C) ps i = ahb wd ((ps.getD i (0, false)).1, (ps.getD i (0, false)).2) ++ ((pcz L C).getD i []).flatMap (nb (ps.getD i (0, false)).2 (ps.getD i (0, false)).1) := rfl
    have hqg := pcz_get L C i (by omega)
    have hql : ((pcz L C).getD i []).length = C.getD i 0 := by rw [hqg, List.length_take, List.length_drop]; omega
    have hsnoc := ptFold_snoc B wd C (pts0 L.length P0.length 0) (List.range i) i
    rw [← List.range_succ] at hsnoc
    rcases ih (by omega) with ⟨g1, g2, g3⟩ | ⟨g1, j, g2, m, g3, g4⟩ | ⟨g1, g2⟩
    · obtain ⟨R', hR'⟩ := range_flat_split (pti wd (pcz L C) ps) (show i < C.length by omega)
      have hk := hok i (by omega)
      have h2 : X ++ Y = (P0 ++ (List.range i).flatMap (pti wd (pcz L C) ps)) ++ (ahb wd ((ps.getD i (0, false)).1, (ps.getD i (0, false)).2) ++ (((pcz L C).getD i []).flatMap (nb (ps.getD i (0, false)).2 (ps.getD i (0, false)).1) ++ (R' ++ R))) := by
        rw [h, hR', hpi]; simp only [List.append_assoc]
      obtain ⟨k1, k2⟩ := part_on hB hX h2 hk
      rw [List.length_append] at k1 k2
      have hgo := ptNext_e (B := B) (wd := wd) (C := C) (s := ptFold B wd C (pts0 L.length P0.length 0) (List.range i)) (by rw [g3]) i
      rw [← hsnoc] at hgo
      rw [hgo]
      unfold ptNums
      rw [g3]
      simp only
      rw [hrf, List.length_append, hpi, List.length_append]
      by_cases hl : P0.length + ((List.range i).flatMap (pti wd (pcz L C) ps)).length + (ahb wd ((ps.getD i (0, false)).1, (ps.getD i (0, false)).2)).length ≤ X.length
      · rw [k1 hl]
        simp only
        have h3 : X ++ Y = ((P0 ++ (List.range i).flatMap (pti wd (pcz L C) ps)) ++ ahb wd ((ps.getD i (0, false)).1, (ps.getD i (0, false)).2)) ++ (((pcz L C).getD i []).flatMap (nb (ps.getD i (0, false)).2 (ps.getD i (0, false)).1) ++ (R' ++ R)) := by
          rw [h2]; simp only [List.append_assoc]
        have htn := tn_on hB hX h3 hk (by rw [List.length_append, List.length_append]; exact hl) ((pcz L C).getD i []).length (Nat.le_refl _)
        rw [List.take_length, List.length_append, List.length_append, hql] at htn
        rcases htn with ⟨t1, t2, t3⟩ | ⟨t1, m, t2, t3⟩ | ⟨t1, t2⟩
        · refine .inl ⟨by omega, fun j hj m hm => ?_, ?_⟩
          · by_cases hji : j = i
            · subst hji; rw [hql] at hm; exact t2 m hm
            · exact g2 j (by omega) m hm
          · rw [t3]
            simp only
            rw [hsn, hqg, lay_fill (by omega), pts_take (by omega)]
            congr 1
            omega
        · exact .inr (.inl ⟨t1, i, by omega, m, by rw [hql]; exact t2, t3⟩)
        · exact .inr (.inr ⟨t1, by omega⟩)
      · refine .inr (.inr ⟨?_, by omega⟩)
        have hf := k2 (by omega)
        generalize tkPart B wd (P0.length + ((List.range i).flatMap (pti wd (pcz L C) ps)).length) 0 = kt at *
        obtain ⟨kp, ka, kf⟩ := kt
        simp only at hf ⊢
        rw [hf]
        exact tn_off (by decide) _ (hc1 i (by omega))
    · refine .inr (.inl ⟨?_, j, by omega, m, g3, g4⟩)
      rw [hsnoc, ptNext_stuck (by rw [g1]; decide)]
      exact g1
    · refine .inr (.inr ⟨?_, by rw [hrf, List.length_append]; omega⟩)
      rw [hsnoc, ptNext_stuck (by rw [g1]; decide)]
      exact g1

theorem pcz_flat : ∀ (C : List Nat) (L : List Int), (pcz L C).flatten = L.take C.sum
  | [], L => by simp [pcz]
  | c :: C, L => by
    simp only [pcz, List.flatten_cons, List.sum_cons]
    rw [pcz_flat C, List.take_add]

theorem int_mem {Q : List Int} {m : Nat} (h : m < Q.length) : Q.getD m 0 ∈ Q := by simp [List.getD, h]

theorem any_far {L : List Int} {C : List Nat} (hs : C.sum = L.length) : L.any farN = true ↔ ∃ j, j < C.length ∧ ∃ m, m < ((pcz L C).getD j []).length ∧ farN (((pcz L C).getD j []).getD m 0) = true := by
  have hf : (pcz L C).flatten = L := by rw [pcz_flat, hs, List.take_length]
  have hl := pcz_length L C
  rw [List.any_eq_true]
  constructor
  · rintro ⟨x, hx, hfx⟩
    rw [← hf] at hx
    obtain ⟨Q, hQ, hxQ⟩ := List.mem_flatten.1 hx
    obtain ⟨j, hj, rfl⟩ := List.getElem_of_mem hQ
    obtain ⟨m, hm, rfl⟩ := List.getElem_of_mem hxQ
    refine ⟨j, by omega, m, ?_, ?_⟩
    · simpa [List.getD, hj] using hm
    · simpa [List.getD, hj, hm] using hfx
  · rintro ⟨j, hj, m, hm, hfx⟩
    refine ⟨_, ?_, hfx⟩
    have hm2 : ((pcz L C).getD j []).getD m 0 ∈ (pcz L C).getD j [] := int_mem hm
    have hj2 : (pcz L C).getD j [] ∈ pcz L C := by simp [List.getD, show j < (pcz L C).length by omega]
    have h5 := List.mem_flatten.2 ⟨_, hj2, hm2⟩
    rw [hf] at h5
    exact h5

/-- A section that is taken: as it was put, unless a number is too wide, or a part of it is cut off. -/
theorem sec_on {B : List Nat} {X Y P R : List Bool} {wd : Bool} {L : List Int} {k o : Nat} {ps : List (Int × Bool)} (hB : ∀ b ∈ B, b < 256) (hX : bitsOf B = X) (h : X ++ Y = P ++ (secB wd o (pcz L (cts L.length k o)) ps ++ R))
    (hco : cutOk L.length k o = true) (hk : k ≤ 32) (hn : L.length + k ≤ 65535) (hps : (cts L.length k o).length = ps.length) (hok : ∀ i, i < (cts L.length k o).length → PartOk wd ((pcz L (cts L.length k o)).getD i []) (ps.getD i (0, false)).1 (ps.getD i (0, false)).2) (hP : P.length ≤ X.length) :
    (P.length + (secB wd o (pcz L (cts L.length k o)) ps).length ≤ X.length ∧ L.any farN = false ∧ tkSec B P.length 0 ((L.length + k : Nat) : Int) (k : Int) = ⟨wd, o, L, ps, P.length + (secB wd o (pcz L (cts L.length k o)) ps).length, 0, 0⟩) ∨
    (L.any farN = true ∧ ∃ a f, tkSec B P.length 0 ((L.length + k : Nat) : Int) (k : Int) = ⟨false, 0, [], [], a, f, 14⟩) ∨
    (X.length < P.length + (secB wd o (pcz L (cts L.length k o)) ps).length ∧ ∃ a f, tkSec B P.length 0 ((L.length + k : Nat) : Int) (k : Int) = ⟨false, 0, [], [], a, f, 2⟩) := by
  have hn0 := cutOk_pos hco
  have ho := ((cutOk_iff _ _ _).1 hco).1
  have hsk : skE ((L.length + k : Nat) : Int) (k : Int) = false := by
    unfold skE
    rw [decide_eq_false (by omega), decide_eq_false (by omega), decide_eq_false (by omega), decide_eq_false (by omega)]
    rfl
  have hnk : (((L.length + k : Nat) : Int) - (k : Int)).toNat = L.length := by omega
  have hsum := cts_sum hco
  have hc1 : ∀ i, i < (cts L.length k o).length → 1 ≤ (cts L.length k o).getD i 0 := fun i hi => by
    rw [cts_length hco] at hi
    rw [cts_get hco hi]
    have := (cut_block hco).2
    split <;> omega
  have hsb : secB wd o (pcz L (cts L.length k o)) ps = hdb wd o ++ (List.range (cts L.length k o).length).flatMap (pti wd (pcz L (cts L.length k o)) ps) := by
    unfold secB
    rw [pcz_length]
  have hh6 : (hdb wd o).length = 6 := by simp [hdb, dg_length]
  rw [hsb] at h ⊢
  rw [List.length_append, hh6]
  have h2 : X ++ Y = P ++ (hdb wd o ++ ((List.range (cts L.length k o).length).flatMap (pti wd (pcz L (cts L.length k o)) ps) ++ R)) := by
    rw [h]; simp only [List.append_assoc]
  obtain ⟨a1, a2⟩ := ahead_on hB hX h2 ho
  unfold tkSec
  rw [if_neg (by rw [hsk]; decide)]
  by_cases h6 : P.length + 6 ≤ X.length
  · rw [a1 h6, if_neg (by simp)]
    simp only [hnk, Int.toNat_natCast]
    rw [if_neg (by rw [hco]; decide)]
    have h3 : X ++ Y = (P ++ hdb wd o) ++ ((List.range (cts L.length k o).length).flatMap (pti wd (pcz L (cts L.length k o)) ps) ++ R) := by
      rw [h2]; simp only [List.append_assoc]
    have hfo := fold_on hB hX h3 hok hsum hps hc1 (by rw [List.length_append, hh6]; exact h6) (cts L.length k o).length (Nat.le_refl _)
    rw [List.length_append, hh6] at hfo
    rcases hfo with ⟨g1, g2, g3⟩ | ⟨g1, g2⟩ | ⟨g1, g2⟩
    · refine .inl ⟨by omega, ?_, ?_⟩
      · cases hf : L.any farN with
        | false => rfl
        | true =>
          obtain ⟨j, hj, m, hm, hx⟩ := (any_far hsum).1 hf
          rw [g2 j hj m hm] at hx
          cases hx
      · rw [g3, if_neg (by simp)]
        simp only
        rw [List.take_length, hsum, List.take_length, Nat.sub_self, List.replicate_zero, List.append_nil, hps, List.take_length, Nat.add_assoc]
    · refine .inr (.inl ⟨(any_far hsum).2 g2, (ptFold B wd (cts L.length k o) (pts0 L.length (P.length + 6) 0) (List.range (cts L.length k o).length)).a, (ptFold B wd (cts L.length k o) (pts0 L.length (P.length + 6) 0) (List.range (cts L.length k o).length)).f, ?_⟩)
      rw [if_pos (by rw [g1]; decide), g1]
    · refine .inr (.inr ⟨by omega, (ptFold B wd (cts L.length k o) (pts0 L.length (P.length + 6) 0) (List.range (cts L.length k o).length)).a, (ptFold B wd (cts L.length k o) (pts0 L.length (P.length + 6) 0) (List.range (cts L.length k o).length)).f, ?_⟩)
      rw [if_pos (by rw [g1]; decide), g1]
  · have he := a2 (by omega)
    refine .inr (.inr ⟨by omega, (tkAhead B P.length 0).a, (tkAhead B P.length 0).f, ?_⟩)
    rw [if_pos (by rw [he]; decide), he]

end Go.Proofs.Ytlbnjclchmnomaa
