/- The contract of checks.Build: the tables, in a block of their own. -/
import Derived.Test.YtiibnmejoccfkaaAsk
import Derived.Deep.RegionHeld3
namespace Go.Proofs.Ytiibnmejoccfkaa
open Go.RowKit Bx Crc

theorem m8 : ∀ i, i < 16 → crc 16 1792 (i * 4096) (List.replicate 4 false) / 256 = tab 8 7 i := by decide +kernel
theorem m16 : ∀ i, i < 16 → crc 16 32773 (i * 4096) (List.replicate 4 false) = tab 16 32773 i := by decide +kernel

theorem row8_step (i : Nat) : (row8 i).set i (.int .u8 ((tab 8 7 i : Nat) : Int)) = row8 (i + 1) := by
  apply List.ext_getElem
  · simp [row8]
  · intro j h1 h2
    simp only [row8, List.getElem_set, List.getElem_map, List.getElem_range]
    by_cases e : i = j
    · subst e; simp
    · rw [if_neg e]
      have : (j < i + 1) ↔ j < i := by omega
      simp [this]
theorem row16_step (i : Nat) : (row16 i).set i (.int .u16 ((tab 16 32773 i : Nat) : Int)) = row16 (i + 1) := by
  apply List.ext_getElem
  · simp [row16]
  · intro j h1 h2
    simp only [row16, List.getElem_set, List.getElem_map, List.getElem_range]
    by_cases e : i = j
    · subst e; simp
    · rw [if_neg e]
      have : (j < i + 1) ↔ j < i := by omega
      simp [this]

def TbAt (w : World) (p i j : Nat) : Prop := w.heap[p]? = some (.cells (row8 i ++ row16 j).toArray 41 (0, 0))

theorem TbAt.cell8 {w : World} {p i j k : Nat} (h : TbAt w p i j) (hk : k < 16) : ∃ x : Int, w.cell? ⟨p, k, none⟩ = some (.int .u8 x) := by
  rw [cell_of h, List.getElem?_toArray, List.getElem?_append_left (by simp [row8]; omega)]
  simp [row8, hk]
theorem TbAt.cell16 {w : World} {p i j k : Nat} (h : TbAt w p i j) (hk : k < 16) : ∃ x : Int, w.cell? ⟨p, 16 + k, none⟩ = some (.int .u16 x) := by
  rw [cell_of h, List.getElem?_toArray, List.getElem?_append_right (by simp [row8])]
  simp [row8, row16, hk]
theorem TbAt.set8 {w : World} {p i j : Nat} (h : TbAt w p i j) (hi : i < 16) : TbAt (w.setCell ⟨p, i, none⟩ (.int .u8 ((tab 8 7 i : Nat) : Int))) p (i + 1) j := by
  unfold TbAt
  rw [heap_set h, ← row8_step i]
  simp [row8, hi]
theorem TbAt.set16 {w : World} {p i j : Nat} (h : TbAt w p i j) : TbAt (w.setCell ⟨p, 16 + j, none⟩ (.int .u16 ((tab 16 32773 j : Nat) : Int))) p i (j + 1) := by
  unfold TbAt
  rw [heap_set h, ← row16_step j]
  simp [row8]

def BuildInv (w : World) (a : Act) (w' : World) : Prop :=
  a.defers = [] ∧ a.tmps.size = 26 ∧ a.tmps[1]? = some (.pointer (some ⟨w.heap.size, 0, none⟩)) ∧ Kept Nix w w' ∧ ∃ i, i ≤ 16 ∧ a.tmps[5]? = some (.int .u16 ((i : Nat) : Int)) ∧ TbAt w' w.heap.size i i

def BuildPost (w : World) (e : Ending) (w' : World) : Prop :=
  e = .returned (.pointer (some ⟨w.heap.size, 0, none⟩)) ∧ Tb w' w.heap.size ∧ Kept Nix w w'

set_option maxHeartbeats 400000 in
theorem build_any (w : World) : Calls Try.prog 10 #[] w (BuildPost w) := by
  go_enter Try.func10, Try.ntmps10
  go_wp2
  refine wp_loop (BuildInv w) (fun a _ => 16 - (intOf (a.tmps.getD 5 undef)).toNat) ?_ ?_
  · refine ⟨rfl, rfl, rfl, (Kept.refl _ w).alloc _, 0, Nat.zero_le _, rfl, ?_⟩
    unfold TbAt
    have e : (row8 0 ++ row16 0).toArray = #[.int .u8 0, .int .u8 0, .int .u8 0, .int .u8 0, .int .u8 0, .int .u8 0, .int .u8 0, .int .u8 0, .int .u8 0, .int .u8 0, .int .u8 0, .int .u8 0, .int .u8 0, .int .u8 0, .int .u8 0, .int .u8 0, .int .u16 0, .int .u16 0, .int .u16 0, .int .u16 0, .int .u16 0, .int .u16 0, .int .u16 0, .int .u16 0, .int .u16 0, .int .u16 0, .int .u16 0, .int .u16 0, .int .u16 0, .int .u16 0, .int .u16 0, .int .u16 0] := by rfl
    rw [e]
    exact heap_alloc_new _ _
  · rintro ⟨tm, df⟩ w1 ⟨rfl, hs, h1, k1, i, hi, h5, ht⟩
    simp only at hs h1 h5
    obtain ⟨f, hf, hg⟩ := fr_open hs
    have e1 := hg _ _ h1
    have e5 := hg _ _ h5
    simp only [List.range, List.range.loop, List.map] at hf
    rw [e1, e5] at hf
    clear e1 e5 hg hs h1 h5
    subst hf
    have HT := Lib.hid ht
    by_cases hlt : i < 16
    · have hi1 : (i : Int) < 16 := by omega
      obtain ⟨x, hx⟩ := ht.cell8 hlt
      have hz : w1.frozen? ⟨w.heap.size, i, none⟩ = false := frozen_of ht
      have M1 := Lib.hid (fun w' => made_any i 1792 w' hlt (by decide))
      have E8 := Lib.hid (m8 i hlt)
      have E16 := Lib.hid (m16 i hlt)
      have hb := crc_lt (W := 16) (g := 1792) (by decide) (List.replicate 4 false) (i * 4096) (by omega)
      clear ht
      generalize crc 16 1792 (i * 4096) (List.replicate 4 false) = m at *
      go_wp2_with fail
      go_region_held3 (fun _ => True) (trivial) (first | (go_at_call 17; refine (M1.out _).mono ?_; rintro e w2 ⟨rfl, rfl⟩))
      have ev : IntKind.u8.wrap ((m : Int) / 256) = ((tab 8 7 i : Nat) : Int) := by rw [IntKind.wrap_u8, ← E8.out]; omega
      rw [ev]
      have t2 : TbAt (w1.setCell ⟨w.heap.size, i, none⟩ (.int .u8 ((tab 8 7 i : Nat) : Int))).drew w.heap.size (i + 1) i := HT.out.set8 hlt
      have k2 : Kept Nix w (w1.setCell ⟨w.heap.size, i, none⟩ (.int .u8 ((tab 8 7 i : Nat) : Int))).drew := (k1.setCell (.inr (Nat.le_refl _)) _).drew
      generalize (w1.setCell ⟨w.heap.size, i, none⟩ (.int .u8 ((tab 8 7 i : Nat) : Int))).drew = w2 at *
      clear hx hz ev HT k1 M1 hb E8
      generalize tab 8 7 i = t8 at *
      obtain ⟨x, hx⟩ := t2.cell16 hlt
      have hz : w2.frozen? ⟨w.heap.size, 16 + i, none⟩ = false := frozen_of t2
      have M2 := Lib.hid (fun w' => made_any i 32773 w' hlt (by decide))
      rw [E16.out] at M2
      have HT := Lib.hid t2
      clear t2
      go_wp2_with fail
      go_region_held3 (fun _ => True) (trivial) (first | (go_at_call 17; refine (M2.out _).mono ?_; rintro e w2 ⟨rfl, rfl⟩))
      have t3 : TbAt (w2.setCell ⟨w.heap.size, 16 + i, none⟩ (.int .u16 ((tab 16 32773 i : Nat) : Int))).drew w.heap.size (i + 1) (i + 1) := HT.out.set16
      have k3 : Kept Nix w (w2.setCell ⟨w.heap.size, 16 + i, none⟩ (.int .u16 ((tab 16 32773 i : Nat) : Int))).drew := (k2.setCell (.inr (Nat.le_refl _)) _).drew
      generalize (w2.setCell ⟨w.heap.size, 16 + i, none⟩ (.int .u16 ((tab 16 32773 i : Nat) : Int))).drew = w3 at *
      clear hx hz HT k2 M2 E16
      have HT := Lib.hid t3
      clear t3
      go_wp2_with fail
      refine ⟨⟨rfl, rfl, rfl, k3, i + 1, hlt, rfl, HT.out⟩, ?_⟩
      simp [intOf]; omega
    · have e : i = 16 := by omega
      subst e
      clear ht
      go_wp2
      go_ret
      exact ⟨rfl, HT.out, k1⟩
end Go.Proofs.Ytiibnmejoccfkaa
