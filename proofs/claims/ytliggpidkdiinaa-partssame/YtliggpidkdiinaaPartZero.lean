/- The best plan of numbers that are all 0. No program. -/
import Derived.Test.YtliggpidkdiinaaPartNums
namespace Go.Proofs.Ytliggpidkdiinaa

def zrs (n : Nat) : List Int := List.replicate n 0

theorem zrs_nrs (n : Nat) : nrs (zrs n) = true := by
  unfold nrs zrs
  rw [List.all_eq_true]
  intro x hx
  rw [(List.mem_replicate.1 hx).2]
  decide
theorem zrs_sN (n k : Nat) : sN (zrs n) k = n * (k + 1) := by
  unfold zrs
  induction n with
  | zero => simp [sN]
  | succ n ih =>
    rw [List.replicate_succ, sN, ih, show fd 0 = 0 from by decide, Nat.zero_div, Nat.succ_mul]
    omega
theorem zrs_cw (n : Nat) : cw (zrs n) = 0 := by
  unfold zrs
  induction n with
  | zero => rfl
  | succ n ih =>
    rw [List.replicate_succ, cw, ih, show fd 0 = 0 from by decide]
    decide
theorem zrs_bk (n m : Nat) : bk (zrs n) m = 0 := bk_at rfl (by rw [zrs_sN, zrs_sN]; omega) (Nat.zero_le _)
theorem zrs_cbR (n m : Nat) : cbR (zrs n) m = decide (5 < n) := by
  unfold cbR
  rw [zrs_cw, zrs_bk, zrs_sN]
  simp
theorem zrs_cbN (n m : Nat) : cbN (zrs n) m = if 5 < n then 5 else n := by
  unfold cbN
  rw [zrs_cbR, zrs_cw, zrs_bk, zrs_sN]
  simp
theorem zrs_cbK (n m : Nat) : cbK (zrs n) m = 0 := by
  unfold cbK
  rw [zrs_cw, zrs_bk]
  simp

theorem cbN_pos {Q : List Int} (h : 1 ≤ Q.length) (m : Nat) : 1 ≤ cbN Q m := by
  unfold cbN
  split
  · omega
  · have h1 := sN_low Q (bk Q m)
    have h2 : 1 * 1 ≤ Q.length * (bk Q m + 1) := Nat.mul_le_mul h (by omega)
    omega

theorem psm_low (m a : Nat) : ∀ P : List (List Int), (∀ Q ∈ P, 1 ≤ Q.length) → P.length * (a + 1) ≤ psm m a P
  | [], _ => by simp [psm]
  | Q :: P, h => by
    have h1 := cbN_pos (h Q (by simp)) m
    have h2 := psm_low m a P (fun Q hQ => h Q (by simp [hQ]))
    simp only [psm, List.length_cons, Nat.succ_mul]
    omega

theorem cts_pos {n k o : Nat} (h : cutOk n k o = true) : ∀ c ∈ cts n k o, 1 ≤ c := by
  have h3 := ((cutOk_iff _ _ _).1 h).2.2
  unfold cts
  rw [if_pos h]
  intro c hc
  rcases List.mem_cons.1 hc with rfl | hc
  · omega
  · rw [(List.mem_replicate.1 hc).2]
    omega

theorem plS_pos {L : List Int} {k o : Nat} (h : cutOk L.length k o = true) : ∀ Q ∈ plS L k o, 1 ≤ Q.length := by
  intro Q hQ
  refine cts_pos h _ ?_
  rw [← pcz_lens L (cts L.length k o) (cts_sum_le _ _ _)]
  exact List.mem_map_of_mem hQ

theorem plS_zero {L : List Int} (k : Nat) (h0 : 0 < L.length) : plS L k 0 = [L] := by
  have e : cts L.length k 0 = [L.length] := by
    unfold cts
    rw [if_pos (cutOk_zero k h0)]
    simp
  unfold plS
  rw [e]
  simp [pcz]

theorem zero_least (n k : Nat) (h0 : 0 < n) (w : Bool) (o : Nat) (ho : cutOk n k o = true) : plN (zrs n) k false 0 ≤ plN (zrs n) k w o := by
  have hl : (zrs n).length = n := by simp [zrs]
  rw [plN_zero k (by omega), zrs_cbN]
  cases o with
  | zero =>
    unfold plN
    rw [plS_zero k (by omega)]
    simp only [psm, zrs_cbN]
    cases w <;> simp only [wA] <;> split <;> simp <;> omega
  | succ o =>
    have h1 := psm_low (wM w) (wA w) (plS (zrs n) k (o + 1)) (plS_pos (by rw [hl]; exact ho))
    rw [plS_length (by rw [hl]; exact ho)] at h1
    have h2 := Nat.two_pow_pos o
    have h3 : 2 * 5 ≤ 2 ^ (o + 1) * (wA w + 1) := Nat.mul_le_mul (by rw [Nat.pow_succ]; omega) (by cases w <;> decide)
    unfold plN
    split <;> omega

theorem zero_plan (n k m : Nat) (h0 : 0 < n) (wide : Bool) : bsW (zrs n) k m wide = false ∧ bsO (zrs n) k m wide = 0 ∧ plN (zrs n) k false 0 = 10 + (if 5 < n then 5 else n) ∧ plP (zrs n) k false 0 = [(0, decide (5 < n))] := by
  have hl : (zrs n).length = n := by simp [zrs]
  have hf := fun o (ho : o ≤ fin n k m) => cutOk_le (fin_ok (k := k) h0 m) ho
  have hu : upA (plN (zrs n) k false) (fin n k m) = 0 := (upA_fst _ _).unique ⟨Nat.zero_le _, fun i hi => zero_least n k h0 false i (hf i hi), fun i hi => absurd hi (Nat.not_lt_zero _)⟩
  have hw : bsW (zrs n) k m wide = false := by
    unfold bsW
    rw [hl, hu, decide_eq_false (Nat.not_lt.2 (zero_least n k h0 true _ (hf _ (upA_le _ _)))), Bool.and_false]
  refine ⟨hw, ?_, ?_, ?_⟩
  · unfold bsO
    rw [hw, hl, hu]
  · rw [plN_zero k (by omega), zrs_cbN]
    omega
  · unfold plP
    rw [plS_zero k (by omega)]
    obtain ⟨h1, h2, -⟩ := best_near (zrs_nrs n) (wM false)
    simp only [bps, List.map_cons, List.map_nil, h1, h2, zrs_cbR, zrs_cbK]
    rfl

theorem zero_nums {k m n : Nat} (hk : k ≤ 32) (hm : m ≤ 8) (h0 : 0 < n) (wide : Bool) :
    pbE (zrs n) (k : Int) (m : Int) = 0 ∧ pbW (zrs n) (k : Int) (m : Int) wide = false ∧ pbO (zrs n) (k : Int) (m : Int) wide = 0 ∧ pbP (zrs n) (k : Int) (m : Int) wide = [(0, decide (5 < n))] ∧ pbN (zrs n) (k : Int) (m : Int) wide = ((10 + (if 5 < n then 5 else n) : Nat) : Int) := by
  have hl : (zrs n).length = n := by simp [zrs]
  obtain ⟨c1, c2, c3, c4, c5⟩ := pb_told hk hm (by omega) (zrs_nrs n) wide
  obtain ⟨d1, d2, d3, d4⟩ := zero_plan n k m h0 wide
  rw [c1, c2, c3, c4, c5, d1, d2, d3, d4]
  exact ⟨rfl, rfl, rfl, rfl, rfl⟩

end Go.Proofs.Ytliggpidkdiinaa
