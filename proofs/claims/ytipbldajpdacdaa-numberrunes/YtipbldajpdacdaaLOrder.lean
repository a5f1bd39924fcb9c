/- The walk of the statement NumberOrder. -/
import Derived.Test.YtipbldajpdacdaaLNum
import Derived.Test.YtipbldajpdacdaaNumOrd
import Derived.Laws.BytesArg
namespace Go.Proofs.Ytipbldajpdacdaa
open Go.RowKit Bx Nm

/-- Bytes as a text. -/
def txt (B : List Nat) : ByteArray := strOfNums (B.map fun b : Nat => (b : Int))

theorem conv_txt {w : World} {v : Value} {B : List Nat} (h : Sl w v (u8s B)) : (convert 22 9 v).run Try.prog w = .ok (.string (txt B)) w := by
  by_cases h0 : 0 < B.length
  · obtain ⟨b, off, cap, rfl, _, _, hc⟩ := h.cells h0
    refine run_convert_bytes_arg w 22 5 Try.underlying22 Try.underlying5 b off B.length cap _ (by simp) (fun i hi => ?_) 9 Try.underlying9
    rw [hc i hi]
    simp [List.getD, hi]
  · have hB : B = [] := List.eq_nil_of_length_eq_zero (by omega)
    subst hB
    obtain ⟨ao, cap, rfl⟩ := h.shape
    cases ao with
    | none => exact run_convert_bytes_nil w 22 5 Try.underlying22 Try.underlying5 _ _ 9 Try.underlying9
    | some ad =>
      have hl : (loadCells ad 0).run Try.prog w = .ok (([] : List Int).map (Value.int .u8)).toArray w := by
        have := run_loadCells_list (P := Try.prog) w ad [] (fun j v hj => by simp at hj)
        simpa using this
      rw [List.length_nil, run_convert_bytes_string w 22 9 5 _ _ _ Try.underlying22 Try.underlying5 Try.underlying9, run_bytesToString w _ 0 cap [] hl]
      rfl

theorem txt_list (B : List Nat) : (txt B).toList = B.map fun b => UInt8.ofNat b := by
  rw [ByteArray.toList_eq, txt, strOfNums_data]
  simp

theorem less_lx : ∀ (X Y : List Nat), (∀ b ∈ X, b < 256) → (∀ b ∈ Y, b < 256) → Op.bytesLess (X.map fun b => UInt8.ofNat b) (Y.map fun b => UInt8.ofNat b) = lx X Y := by
  intro X
  induction X with
  | nil => intro Y _ _; cases Y <;> simp [Op.bytesLess, lx]
  | cons x X ih =>
    intro Y hX hY
    cases Y with
    | nil => simp [Op.bytesLess, lx]
    | cons y Y =>
      have hx := hX x (by simp)
      have hy := hY y (by simp)
      simp only [List.map_cons, Op.bytesLess, lx]
      rw [ih Y (fun b h => hX b (by simp [h])) (fun b h => hY b (by simp [h]))]
      have e1 : decide (UInt8.ofNat x < UInt8.ofNat y) = decide (x < y) := by
        rw [decide_eq_decide, UInt8.lt_iff_toNat_lt]
        simp [Nat.mod_eq_of_lt hx, Nat.mod_eq_of_lt hy]
      have e2 : (UInt8.ofNat x == UInt8.ofNat y) = (x == y) := by
        rw [Bool.eq_iff_iff, beq_iff_eq, beq_iff_eq, ← UInt8.toNat_inj]
        simp [Nat.mod_eq_of_lt hx, Nat.mod_eq_of_lt hy]
      rw [e1, e2]

theorem less_enc (n m : Nat) (hn : n < 68719476736) (hm : m < 68719476736) : Op.bytesLess (txt (enc n)).toList (txt (enc m)).toList = decide ((n : Int) < (m : Int)) := by
  rw [txt_list, txt_list, less_lx _ _ (enc_lt n hn) (enc_lt m hm), lx_enc n m hn hm]
  rw [decide_eq_decide]
  omega

set_option maxHeartbeats 1000000 in
theorem walk_NumberOrder (w : World) (a : Int) (w0 : (Lit.int .u64 a).wf = true) (b : Int) (w1 : (Lit.int .u64 b).wf = true) :
    Calls Try.prog 7 #[.int .u64 a, .int .u64 b] w fun e w' => e = .returned (.bool true) ∧ Kept Nix w w' := by
  have b0 := bounds_u64 w0
  have b1 := bounds_u64 w1
  obtain ⟨a, rfl⟩ := Int.eq_ofNat_of_zero_le b0.1
  obtain ⟨b, rfl⟩ := Int.eq_ofNat_of_zero_le b1.1
  clear w0 w1
  have HA := Lib.hid (awake_any w)
  have ha : a % 68719476736 < 68719476736 := Nat.mod_lt _ (by decide)
  have hb : b % 68719476736 < 68719476736 := Nat.mod_lt _ (by decide)
  have ea : (a : Int) % 68719476736 = ((a % 68719476736 : Nat) : Int) := by omega
  have eb : (b : Int) % 68719476736 = ((b % 68719476736 : Nat) : Int) := by omega
  generalize a % 68719476736 = n at *
  generalize b % 68719476736 = m at *
  have hn2 : (n : Int) < 68719476736 := by omega
  have hm2 : (m : Int) < 68719476736 := by omega
  have HN := Lib.hid ha
  have HM := Lib.hid hb
  clear ha hb
  go_enter Try.func7, Try.ntmps7
  go_wp2_with fail
  refine HA.out.mono ?_
  rintro e w1 ⟨rfl, k1⟩
  have HE := Lib.hid (encode_ok 0 n w1 HN.out (Nat.zero_le _))
  go_wp2_with fail
  refine HE.out.mono ?_
  rintro e w2 ⟨a2, c2, rfl, o2, k2, _, _, _⟩
  have HF := Lib.hid (encode_ok 0 m w2 HM.out (Nat.zero_le _))
  go_wp2_with fail
  refine HF.out.mono ?_
  rintro e w3 ⟨a3, c3, rfl, o3, k3, _, _, _⟩
  have c2 := conv_txt ((sl_of_owns o2).nix k3)
  have c3 := conv_txt (sl_of_owns o3)
  have hls := less_enc n m HN.out HM.out
  have S3 := Lib.hid (same_any _ _ _ _ w3 ((sl_of_owns o2).nix k3) (sl_of_owns o3) (by rw [enc_length n HN.out]; have := szn_le n; omega))
  have hsame : decide (enc n = enc m) = ((n : Int) == (m : Int)) := by
    rw [Bool.eq_iff_iff, decide_eq_true_eq, beq_iff_eq]
    constructor
    · intro h; have := enc_inj n m HN.out HM.out h; omega
    · intro h; rw [show n = m by omega]
  rw [hsame] at S3
  have hcases : ((n : Int) < (m : Int)) ∨ n = m ∨ ((m : Int) < (n : Int)) := by omega
  clear hsame
  generalize txt (enc n) = tn at *
  generalize txt (enc m) = tm at *
  rcases hcases with h | h | h
  · have h1 : decide ((n : Int) < (m : Int)) = true := by simpa using h
    have h2 : decide ((m : Int) < (n : Int)) = false := by simp; omega
    have h3 : ((n : Int) == (m : Int)) = false := by simp; omega
    have h1' : decide (n < m) = true := by simp; omega
    have h2' : decide (m < n) = false := by simp; omega
    have h3' : (n == m) = false := by simp; omega
    have h4 : decide (szn n ≤ szn m) = true := by
      have := szn_mono (show n ≤ m by omega) HM.out
      simp; omega
    rw [h1] at hls
    rw [h3] at S3
    clear h h1 h2
    go_wp2_with (first
      | (go_at_call 15; refine (nsize_any _ _).mono ?_; rintro e w' ⟨rfl, rfl⟩)
      | (go_at_call 14; refine (S3.out).mono ?_; rintro e w4 ⟨rfl, n4, rfl⟩))
    go_ret
    exact ⟨rfl, (nix_trans (nix_trans k1 k2) k3).drewN n4⟩
  · subst h
    have h1 : decide ((n : Int) < (n : Int)) = false := by simp
    have h3 : ((n : Int) == (n : Int)) = true := by simp
    rw [h1] at hls
    rw [h3] at S3
    go_wp2_with (first
      | (go_at_call 15; refine (nsize_any _ _).mono ?_; rintro e w' ⟨rfl, rfl⟩)
      | (go_at_call 14; refine (S3.out).mono ?_; rintro e w4 ⟨rfl, n4, rfl⟩))
    go_ret
    exact ⟨rfl, (nix_trans (nix_trans k1 k2) k3).drewN n4⟩
  · have h1 : decide ((n : Int) < (m : Int)) = false := by simp; omega
    have h2 : decide ((m : Int) < (n : Int)) = true := by simpa using h
    have h3 : ((n : Int) == (m : Int)) = false := by simp; omega
    have h1' : decide (n < m) = false := by simp; omega
    have h2' : decide (m < n) = true := by simp; omega
    have h3' : (n == m) = false := by simp; omega
    rw [h1] at hls
    rw [h3] at S3
    clear h h1 h2
    go_wp2_with (first
      | (go_at_call 15; refine (nsize_any _ _).mono ?_; rintro e w' ⟨rfl, rfl⟩)
      | (go_at_call 14; refine (S3.out).mono ?_; rintro e w4 ⟨rfl, n4, rfl⟩))
    go_ret
    exact ⟨rfl, (nix_trans (nix_trans k1 k2) k3).drewN n4⟩

end Go.Proofs.Ytipbldajpdacdaa
