/- Contracts of package checks: what four bits make of a register. -/
import Derived.Test.YtiibnmejoccfkaaKit
import Derived.Test.YtiibnmejoccfkaaCrc
import Derived.Test.YtiibnmejoccfkaaSlice
namespace Go.Proofs.Ytiibnmejoccfkaa
open Go.RowKit Bx Crc

theorem reg16 (g c : Nat) (hc : c < 65536) : reg 16 g c false = (2 * c % 65536) ^^^ (c / 32768 * g) := by
  unfold reg
  rw [Bool.xor_false, Nat.testBit_eq_decide_div_mod_eq]
  have h : c / 32768 < 2 := by omega
  congr 1
  have h2 : c / 32768 = 0 ∨ c / 32768 = 1 := by omega
  rcases h2 with h2 | h2 <;> simp [h2]

theorem step16 (g c : Nat) (hg : g < 65536) (hc : c < 65536) : bits .xor .u16 (IntKind.u16.wrap ((c : Int) * 2)) (IntKind.u16.wrap ((c : Int) / 32768 * (g : Int))) = ((reg 16 g c false : Nat) : Int) := by
  have h2 : c / 32768 = 0 ∨ c / 32768 = 1 := by omega
  have e1 : IntKind.u16.wrap ((c : Int) * 2) = ((2 * c % 65536 : Nat) : Int) := by rw [IntKind.wrap_u16]; omega
  have e2 : IntKind.u16.wrap ((c : Int) / 32768 * (g : Int)) = ((c / 32768 * g : Nat) : Int) := by
    have e3 : (c : Int) / 32768 = ((c / 32768 : Nat) : Int) := by omega
    rw [IntKind.wrap_u16, e3]
    rcases h2 with h2 | h2 <;> rw [h2] <;> simp <;> omega
  rw [e1, e2, u16_xor_nat _ _ (Nat.mod_lt _ (by decide)) (by rcases h2 with h2 | h2 <;> rw [h2] <;> omega), reg16 g c hc]

def MadeInv (g four : Nat) (w : World) (a : Act) (w' : World) : Prop :=
  w' = w ∧ a.defers = [] ∧ a.tmps.size = 21 ∧ a.tmps[1]? = some (.int .u16 (g : Int)) ∧ ∃ i, i ≤ 4 ∧ a.tmps[9]? = some (.int .i64 ((i : Nat) : Int)) ∧ a.tmps[5]? = some (.int .u16 ((crc 16 g (four * 4096) (List.replicate i false) : Nat) : Int))

set_option maxHeartbeats 400000 in
theorem made_any (four g : Nat) (w : World) (hf : four < 16) (hg : g < 65536) :
    Calls Try.prog 17 #[.int .u16 (four : Int), .int .u16 (g : Int)] w fun e w' => e = .returned (.int .u16 ((crc 16 g (four * 4096) (List.replicate 4 false) : Nat) : Int)) ∧ w = w' := by
  go_enter Try.func17, Try.ntmps17
  go_wp2
  refine wp_loop (MadeInv g four w) (fun a _ => 4 - (intOf (a.tmps.getD 9 undef)).toNat) ?_ ?_
  · refine ⟨rfl, rfl, rfl, rfl, 0, Nat.zero_le _, rfl, ?_⟩
    refine congrArg (fun z => some (Value.int .u16 z)) ?_
    simp [crc]
  · rintro ⟨tm, df⟩ w1 ⟨rfl, rfl, hs, h1, i, hi, h9, h5⟩
    simp only at hs h1 h9 h5
    obtain ⟨f, hf, hg2⟩ := fr_open hs
    have e1 := hg2 _ _ h1
    have e5 := hg2 _ _ h5
    have e9 := hg2 _ _ h9
    simp only [List.range, List.range.loop, List.map] at hf
    rw [e1, e5, e9] at hf
    clear e1 e5 e9 hg2 hs h1 h5 h9
    subst hf
    by_cases hlt : i < 4
    · have hc : crc 16 g (four * 4096) (List.replicate i false) < 65536 := crc_lt (W := 16) hg _ _ (by omega)
      have hn : crc 16 g (four * 4096) (List.replicate (i + 1) false) = reg 16 g (crc 16 g (four * 4096) (List.replicate i false)) false := by rw [List.replicate_succ', crc_append]; rfl
      generalize crc 16 g (four * 4096) (List.replicate i false) = c at *
      have HN := Lib.hid hn
      clear hn
      go_wp2
      refine ⟨⟨rfl, rfl, rfl, rfl, i + 1, hlt, rfl, ?_⟩, ?_⟩
      · exact congrArg (fun z => some (Value.int .u16 z)) (by rw [HN.out]; exact step16 g c hg hc)
      · simp [intOf]; omega
    · have e : i = 4 := by omega
      subst e
      go_wp2
      go_ret
      exact ⟨rfl, rfl⟩

/-- At block p lie the tables. -/
def row8 (i : Nat) : List Value := (List.range 16).map fun j => Value.int .u8 ((if j < i then tab 8 7 j else 0 : Nat) : Int)
def row16 (i : Nat) : List Value := (List.range 16).map fun j => Value.int .u16 ((if j < i then tab 16 32773 j else 0 : Nat) : Int)
def Tb (w : World) (p : Nat) : Prop := w.heap[p]? = some (.cells (row8 16 ++ row16 16).toArray 41 (0, 0))

theorem Tb.kept {w w' : World} {p : Nat} {S : Nat → Prop} (h : Tb w p) (hk : Kept S w w') (hp : ¬ S p) : Tb w' p := hk.heap h hp
theorem Tb.eight {w : World} {p : Nat} (h : Tb w p) (i : Nat) (hi : i < 16) : w.cell? ⟨p, i, none⟩ = some (.int .u8 ((tab 8 7 i : Nat) : Int)) := by
  rw [cell_of h, List.getElem?_toArray, List.getElem?_append_left (by simp [row8]; omega)]
  simp [row8, hi]
theorem Tb.sixteen {w : World} {p : Nat} (h : Tb w p) (i : Nat) (hi : i < 16) : w.cell? ⟨p, 16 + i, none⟩ = some (.int .u16 ((tab 16 32773 i : Nat) : Int)) := by
  rw [cell_of h, List.getElem?_toArray, List.getElem?_append_right (by simp [row8])]
  simp [row8, row16, hi]

theorem tab8_lt (i : Nat) : tab 8 7 i < 256 := crc_lt (W := 8) (by decide) _ _ (by decide)
theorem tab16_lt (i : Nat) : tab 16 32773 i < 65536 := crc_lt (W := 16) (by decide) _ _ (by decide)

theorem xor16 {a b : Nat} (ha : a < 16) (hb : b < 16) : a ^^^ b < 16 := Nat.xor_lt_two_pow (n := 4) ha hb

set_option maxHeartbeats 400000 in
theorem four8_any (p c n : Nat) (w : World) (h : Tb w p) (hc : c < 256) (hn : n < 16) :
    Calls Try.prog 19 #[.pointer (some ⟨p, 0, none⟩), .int .u8 (c : Int), .int .u8 (n : Int)] w fun e w' => e = .returned (.int .u8 ((crc 8 7 c (dg 4 n) : Nat) : Int)) ∧ w = w' := by
  have hd : c / 16 < 16 := by omega
  have hx : bits .xor .u8 ((c : Int) / 16) (n : Int) = ((c / 16 ^^^ n : Nat) : Int) := by
    rw [← u8_xor_nat _ _ (by omega) (by omega)]; rfl
  have hi := xor16 hd hn
  have hcell := h.eight _ hi
  have hlt := tab8_lt (c / 16 ^^^ n)
  have hv := four8 c n hc hn
  generalize c / 16 ^^^ n = i at *
  generalize tab 8 7 i = t at *
  have hi1 : (i : Int) < 16 := by omega
  have HV := Lib.hid hv
  clear hv h hd
  go_enter Try.func19, Try.ntmps19
  go_wp2
  go_ret
  refine ⟨ret_int ?_, rfl⟩
  rw [HV.out]
  have e1 : (c : Int) * 16 % 256 = ((c * 16 % 256 : Nat) : Int) := by omega
  rw [e1, u8_xor_nat _ _ (Nat.mod_lt _ (by decide)) hlt]

set_option maxHeartbeats 400000 in
theorem four16_any (p c n : Nat) (w : World) (h : Tb w p) (hc : c < 65536) (hn : n < 16) :
    Calls Try.prog 23 #[.pointer (some ⟨p, 0, none⟩), .int .u16 (c : Int), .int .u8 (n : Int)] w fun e w' => e = .returned (.int .u16 ((crc 16 32773 c (dg 4 n) : Nat) : Int)) ∧ w = w' := by
  have hd : c / 4096 < 16 := by omega
  have hx : bits .xor .u16 ((c : Int) / 4096) (n : Int) = ((c / 4096 ^^^ n : Nat) : Int) := by
    rw [← u16_xor_nat _ _ (by omega) (by omega)]; rfl
  have hi := xor16 hd hn
  have hcell := h.sixteen _ hi
  have hlt := tab16_lt (c / 4096 ^^^ n)
  have hv := four16 c n hc hn
  generalize c / 4096 ^^^ n = i at *
  generalize tab 16 32773 i = t at *
  have hi1 : (i : Int) < 16 := by omega
  have HV := Lib.hid hv
  clear hv h hd
  go_enter Try.func23, Try.ntmps23
  go_wp2
  go_ret
  refine ⟨ret_int ?_, rfl⟩
  rw [HV.out]
  have e1 : IntKind.u16.wrap ((c : Int) * 16) = ((c * 16 % 65536 : Nat) : Int) := by rw [IntKind.wrap_u16]; omega
  rw [e1, u16_xor_nat _ _ (Nat.mod_lt _ (by decide)) hlt]
end Go.Proofs.Ytiibnmejoccfkaa
