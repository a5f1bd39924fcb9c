/- Runes: a number that is a rune has the bytes that the model's own decoding and encoding of texts know. No Go text. -/
import Derived.Test.YtipbldajpdacdaaLOrder
import Derived.Laws.RangeAny
import Derived.Laws.IdiomStrings
import Derived.Lib.OthersKept
namespace Go.Proofs.Ytipbldajpdacdaa
open Go.RowKit Bx Nm

/-- A text as bytes. -/
def bl (s : ByteArray) : List Nat := s.data.toList.map UInt8.toNat

theorem bl_length (s : ByteArray) : (bl s).length = s.size := by unfold bl; rw [List.length_map, Array.length_toList]; rfl
theorem bl_lt (s : ByteArray) : ∀ b ∈ bl s, b < 256 := by
  intro b hb
  obtain ⟨x, _, rfl⟩ := List.mem_map.1 hb
  exact x.toNat_lt
theorem bl_get (s : ByteArray) (i : Nat) (h : i < s.size) : (s.get! i).toNat = (bl s).getD i 0 := by
  have h2 : i < s.data.size := h
  simp only [bl, List.getD, ByteArray.get!, List.getElem?_map, Array.getElem?_toList]
  rw [getElem!_pos s.data i h2, Array.getElem?_eq_getElem h2]
  rfl

theorem txt_bl (B : List Nat) (h : ∀ b ∈ B, b < 256) : bl (txt B) = B := by
  simp only [bl, txt, strOfNums_data, List.map_map]
  conv => rhs; rw [← List.map_id B]
  apply List.map_congr_left
  intro b hb
  simp [Nat.mod_eq_of_lt (h b hb)]

theorem bl_inj {s t : ByteArray} (h : bl s = bl t) : s = t := by
  have h2 : s.data.toList = t.data.toList := by
    refine List.map_inj_right (f := UInt8.toNat) ?_ |>.1 h
    intro a b h
    exact UInt8.toNat_inj.1 h
  cases s; cases t
  simp at h2
  simp [h2]

theorem runeq_iff (c : Nat) : runeq c = true ↔ (c < 55296 ∨ 57343 < c ∧ c ≤ 1114111) := by
  simp only [runeq, Bool.and_eq_true, Bool.or_eq_true, decide_eq_true_eq]
  omega

theorem valid_of (c : Nat) (h : runeq c = true) : Utf8.valid (c : Int) = true := by
  have := (runeq_iff c).1 h
  simp only [Utf8.valid, Bool.or_eq_true, Bool.and_eq_true, decide_eq_true_eq]
  omega
theorem of_valid (c : Nat) (h : Utf8.valid (c : Int) = true) : runeq c = true := by
  simp only [Utf8.valid, Bool.or_eq_true, Bool.and_eq_true, decide_eq_true_eq] at h
  rw [runeq_iff]
  omega

/-- The model's decoding, by its first four bytes and how many there are. -/
theorem decode_rune (s : ByteArray) (pos : Nat) : runeq ((Utf8.decode s pos).1 : Nat) = true := by
  have e : runeq ((Utf8.runeError : Nat) : Int) = true := by decide
  have h0 : (s.get! (pos + 0)).toNat < 256 := (s.get! (pos + 0)).toNat_lt
  have h1 : (s.get! (pos + 1)).toNat < 256 := (s.get! (pos + 1)).toNat_lt
  unfold Utf8.decode
  dsimp only
  split
  · rename_i h
    rw [runeq_iff]
    show (s.get! (pos + 0)).toNat < 55296 ∨ _
    omega
  · split
    · split
      · rw [runeq_iff]
        refine .inl ?_
        show (s.get! (pos + 0)).toNat % 32 * 64 + (s.get! (pos + 1)).toNat % 64 < 55296
        omega
      · exact e
    · split
      · split
        · rename_i h h'
          simp only [Bool.and_eq_true] at h'
          exact of_valid _ h'.2
        · exact e
      · split
        · split
          · rename_i h h'
            simp only [Bool.and_eq_true] at h'
            exact of_valid _ h'.2
          · exact e
        · exact e

theorem enc_r1 (c : Nat) (h : c < 128) : enc c = [c] := by unfold enc; rw [szn_of c 1 (by omega), encs1]
theorem enc_r2 (c : Nat) (h : 128 ≤ c) (h2 : c < 2048) : enc c = [192 + c / 64, 128 + c % 64] := by unfold enc; rw [szn_of c 2 (by omega), encs2]
theorem enc_r3 (c : Nat) (h : 2048 ≤ c) (h2 : c < 65536) : enc c = [224 + c / 4096, 128 + c / 64 % 64, 128 + c % 64] := by unfold enc; rw [szn_of c 3 (by omega), encs3]
theorem enc_r4 (c : Nat) (h : 65536 ≤ c) (h2 : c < 2097152) : enc c = [240 + c / 262144, 128 + c / 4096 % 64, 128 + c / 64 % 64, 128 + c % 64] := by unfold enc; rw [szn_of c 4 (by omega), encs4]

theorem pre_at (s : ByteArray) (pos : Nat) (E R : List Nat) (h : (bl s).drop pos = E ++ R) (k x : Nat) (hk : E[k]? = some x) : pos + k < s.size ∧ (s.get! (pos + k)).toNat = x := by
  have hkl := (List.getElem?_eq_some_iff.1 hk).1
  have hl : ((bl s).drop pos).length = (E ++ R).length := by rw [h]
  simp only [List.length_drop, List.length_append, bl_length] at hl
  have h1 : pos + k < s.size := by omega
  refine ⟨h1, ?_⟩
  rw [bl_get s _ h1]
  have e1 : (bl s)[pos + k]? = some x := by rw [← List.getElem?_drop, h, List.getElem?_append_left hkl, hk]
  simp [List.getD, e1]

/-- Bytes that begin with a rune's are read as that rune. -/
theorem decode_pre (s : ByteArray) (pos c : Nat) (R : List Nat) (hv : runeq c = true) (h : (bl s).drop pos = enc c ++ R) : Utf8.decode s pos = (c, (enc c).length) := by
  have hr := (runeq_iff c).1 hv
  have hva := valid_of c hv
  have hat := pre_at s pos (enc c) R h
  unfold Utf8.decode
  dsimp only
  by_cases c1 : c < 128
  · rw [enc_r1 c c1] at *
    have a0 := hat 0 _ rfl
    simp only [a0.2]
    rw [if_pos (by omega)]
    rfl
  · by_cases c2 : c < 2048
    · rw [enc_r2 c (by omega) c2] at *
      have a0 := hat 0 _ rfl
      have a1 := hat 1 _ rfl
      simp only [a0.2, a1.2]
      rw [if_neg (by omega), if_pos (by simp [a1.1]; omega), if_pos (by omega)]
      rw [show (192 + c / 64) % 32 * 64 + (128 + c % 64) % 64 = c by omega]
      rfl
    · by_cases c3 : c < 65536
      · rw [enc_r3 c (by omega) c3] at *
        have a0 := hat 0 _ rfl
        have a1 := hat 1 _ rfl
        have a2 := hat 2 _ rfl
        have e : (224 + c / 4096) % 16 * 4096 + (128 + c / 64 % 64) % 64 * 64 + (128 + c % 64) % 64 = c := by omega
        simp only [a0.2, a1.2, a2.2, e]
        rw [if_neg (by omega), if_neg (by simp; omega), if_pos (by simp [a1.1, a2.1]; omega), if_pos (by simp [hva]; omega)]
        rfl
      · rw [enc_r4 c (by omega) (by omega)] at *
        have a0 := hat 0 _ rfl
        have a1 := hat 1 _ rfl
        have a2 := hat 2 _ rfl
        have a3 := hat 3 _ rfl
        have e : (240 + c / 262144) % 8 * 262144 + (128 + c / 4096 % 64) % 64 * 4096 + (128 + c / 64 % 64) % 64 * 64 + (128 + c % 64) % 64 = c := by omega
        simp only [a0.2, a1.2, a2.2, a3.2, e]
        rw [if_neg (by omega), if_neg (by simp; omega), if_neg (by simp; omega), if_pos (by simp [a1.1, a2.1, a3.1]; omega), if_pos (by simp [hva]; omega)]
        rfl

/-- A rune made a text has its own bytes. -/
theorem encode_txt (c : Nat) (hv : runeq c = true) : Utf8.encode (c : Int) = txt (enc c) := by
  have hr := (runeq_iff c).1 hv
  have hva := valid_of c hv
  unfold Utf8.encode
  dsimp only
  rw [if_pos hva, Int.toNat_natCast]
  by_cases c1 : c < 128
  · rw [enc_r1 c c1, if_pos (by omega)]
    rfl
  · by_cases c2 : c < 2048
    · rw [enc_r2 c (by omega) c2, if_neg (by omega), if_pos (by omega)]
      rfl
    · by_cases c3 : c < 65536
      · rw [enc_r3 c (by omega) c3, if_neg (by omega), if_neg (by omega), if_pos (by omega)]
        rfl
      · rw [enc_r4 c (by omega) (by omega), if_neg (by omega), if_neg (by omega), if_neg (by omega)]
        rfl

theorem bl_extract (t : ByteArray) (a b : Nat) : bl (t.extract a b) = ((bl t).drop a).take (b - a) := by
  simp [bl, ByteArray.data_extract, List.map_take, List.map_drop]

theorem bl_toList (s : ByteArray) : s.toList.map UInt8.toNat = bl s := by rw [ByteArray.toList_eq]; rfl

/-- A text as a row of bytes, that is new. -/
theorem bytes_of (w : World) (s : ByteArray) (hs : s.size ≤ maxLen) : ∃ ao cap w', (convert 9 22 (.string s)).run Try.prog w = .ok (.slice ao s.size cap) w' ∧ Sl w' (.slice ao s.size cap) (u8s (bl s)) ∧ Kept Nix w w' := by
  refine ⟨_, _, _, run_bytes_of_string (P := Try.prog) w 9 22 5 s Try.underlying9 Try.underlying22 Try.underlying5, ?_, (Kept.refl Nix w).drew.alloc _⟩
  have hge := grownCap_ge w s.size 0 5
  have hle := grownCap_le_maxLen w s.size 0 5 hs
  generalize grownCap w s.size 0 5 = cap at *
  refine ⟨_, cap, by rw [u8s_length, bl_length], by rw [u8s_length, bl_length]; exact hge, hle, fun h => by simp at h, fun _ => ⟨w.heap.size, 0, rfl, by simp, fun j u hu => ?_⟩⟩
  have hj : j < s.size := by
    have := (List.getElem?_eq_some_iff.1 hu).1
    rwa [u8s_length, bl_length] at this
  have hh := cell_of (i := 0 + j) (heap_alloc_new w.drew (.cells (bytesRow s cap) 5 ((bytesRow s cap).size, (bytesRow s cap).size + 1)))
  rw [show w.drew.heap.size = w.heap.size from rfl] at hh
  rw [hh, Nat.zero_add, ← hu]
  simp only [bytesRow, u8s, bl, Array.getElem?_append, Array.size_map, Array.getElem?_map, List.map_map, List.getElem?_map, Array.getElem?_toList]
  rw [if_pos (show j < s.data.size from hj)]
  rfl

end Go.Proofs.Ytipbldajpdacdaa
