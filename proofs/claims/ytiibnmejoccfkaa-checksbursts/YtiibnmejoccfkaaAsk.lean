/- Contracts of package checks: bytes that go into a register, by the tables. -/
import Derived.Test.YtiibnmejoccfkaaChecks
namespace Go.Proofs.Ytiibnmejoccfkaa
open Go.RowKit Bx Crc

theorem Sl.len {w : World} {ao : Option Addr} {n cap : Nat} {B : List Nat} (h : Sl w (.slice ao n cap) (u8s B)) : n ≤ maxLen := by
  obtain ⟨ao', cap', e, h1, h2, _⟩ := h
  simp only [Value.slice.injEq, u8s_length] at e h1
  omega

def Ask8Inv (p : Nat) (v : Value) (c : Nat) (B : List Nat) (w : World) (a : Act) (w' : World) : Prop :=
  w' = w ∧ a.defers = [] ∧ a.tmps.size = 31 ∧ a.tmps[0]? = some (.pointer (some ⟨p, 0, none⟩)) ∧ a.tmps[1]? = some (.func (.func 19) #[] #[]) ∧ a.tmps[11]? = some v ∧ a.tmps[12]? = some (.int .i64 (B.length : Int)) ∧
    ∃ i, i ≤ B.length ∧ a.tmps[13]? = some (.int .i64 ((i : Nat) : Int)) ∧ a.tmps[2]? = some (.int .u8 ((crc 8 7 c (bitsOf (B.take i)) : Nat) : Int))

set_option maxHeartbeats 400000 in
theorem ask8_any (p c : Nat) (v : Value) (B : List Nat) (w : World) (h : Tb w p) (hc : c < 256) (hs : Sl w v (u8s B)) (hB : ∀ b ∈ B, b < 256) :
    Calls Try.prog 18 #[.pointer (some ⟨p, 0, none⟩), .func (.func 19) #[] #[], .int .u8 (c : Int), v] w fun e w' => e = .returned (.int .u8 ((crc 8 7 c (bitsOf B) : Nat) : Int)) ∧ w = w' := by
  obtain ⟨ao, cap, rfl⟩ := hs.shape
  have HS := Lib.hid hs
  have HT := Lib.hid h
  have HB := Lib.hid hB
  have hm := hs.len
  clear hs h hB
  go_enter Try.func18, Try.ntmps18
  go_wp2
  refine wp_loop (Ask8Inv p (.slice ao B.length cap) c B w) (fun a _ => B.length - (intOf (a.tmps.getD 13 undef)).toNat) ?_ ?_
  · exact ⟨rfl, rfl, rfl, rfl, rfl, rfl, rfl, 0, Nat.zero_le _, rfl, rfl⟩
  · rintro ⟨tm, df⟩ w1 ⟨rfl, rfl, hz, h0, h1, h11, h12, i, hi, h13, h2⟩
    simp only at hz h0 h1 h11 h12 h13 h2
    obtain ⟨f, hf, hg⟩ := fr_open hz
    have e0 := hg _ _ h0
    have e1 := hg _ _ h1
    have e2 := hg _ _ h2
    have e11 := hg _ _ h11
    have e12 := hg _ _ h12
    have e13 := hg _ _ h13
    simp only [List.range, List.range.loop, List.map] at hf
    rw [e0, e1, e2, e11, e12, e13] at hf
    clear e0 e1 e2 e11 e12 e13 hg hz h0 h1 h2 h11 h12 h13
    subst hf
    have hk : crc 8 7 c (bitsOf (B.take i)) < 256 := crc_lt (W := 8) (by decide) _ _ hc
    by_cases hlt : i < B.length
    · have hx := getD_lt B i HB.out
      obtain ⟨b, off, rfl⟩ := HS.out.where (by omega)
      obtain ⟨b', off', cap', e, _, _, hh⟩ := HS.out.cells (by omega)
      simp only [Value.slice.injEq, Option.some.injEq, Addr.mk.injEq, and_true, true_and] at e
      obtain ⟨⟨rfl, rfl⟩, rfl⟩ := e
      have hd := hh i hlt
      clear hh
      have htk : bitsOf (B.take (i + 1)) = bitsOf (B.take i) ++ (dg 4 (B.getD i 0 / 16) ++ dg 4 (B.getD i 0 % 16)) := by
        rw [List.take_succ_eq_append_getElem hlt, bitsOf_snoc, ← dg8 _ hx]; simp [hlt]
      generalize B.getD i 0 = x at *
      have HTK := Lib.hid htk
      clear htk
      have hi1 : (i : Int) < (B.length : Int) := by omega
      have hi2 : (i : Int) < 9223372036854775807 := by simp only [maxLen] at hm; omega
      generalize hK : crc 8 7 c (bitsOf (B.take i)) = K at *
      have HK := Lib.hid hK
      have F1 := four8_any p K (x / 16) w1 HT.out hk (by omega)
      have hk2 : crc 8 7 K (dg 4 (x / 16)) < 256 := crc_lt (W := 8) (by decide) _ _ hk
      have F2 := four8_any p _ (x % 16) w1 HT.out hk2 (by omega)
      have eb : crc 8 7 (crc 8 7 K (dg 4 (x / 16))) (dg 4 (x % 16)) = crc 8 7 c (bitsOf (B.take (i + 1))) := by rw [HTK.out, crc_append, crc_append, HK.out]
      rw [eb] at F2
      generalize crc 8 7 K (dg 4 (x / 16)) = K2 at *
      generalize hK3 : crc 8 7 c (bitsOf (B.take (i + 1))) = K3 at *
      have HK3 := Lib.hid hK3
      rw [show ((x / 16 : Nat) : Int) = (x : Int) / 16 by omega] at F1
      rw [show ((x % 16 : Nat) : Int) = (x : Int) % 16 by omega] at F2
      have F1 := Lib.hid F1
      have F2 := Lib.hid F2
      clear hK hK3 eb hk hk2
      go_wp2_with fail
      refine F1.out.mono ?_
      rintro e w2 ⟨rfl, rfl⟩
      go_wp2_with fail
      refine F2.out.mono ?_
      rintro e w3 ⟨rfl, rfl⟩
      go_wp2_with fail
      refine ⟨⟨rfl, rfl, rfl, rfl, rfl, rfl, rfl, i + 1, hlt, rfl, ?_⟩, ?_⟩
      · rw [HK3.out]; rfl
      · simp [intOf]; omega
    · have e : i = B.length := by omega
      subst e
      rw [List.take_length] at *
      go_wp2
      go_ret
      exact ⟨rfl, rfl⟩

set_option maxHeartbeats 400000 in
theorem teight_any (p c : Nat) (v : Value) (B : List Nat) (w : World) (h : Tb w p) (hc : c < 256) (hs : Sl w v (u8s B)) (hB : ∀ b ∈ B, b < 256) :
    Calls Try.prog 11 #[.pointer (some ⟨p, 0, none⟩), .int .u8 (c : Int), v] w fun e w' => e = .returned (.int .u8 ((crc 8 7 c (bitsOf B) : Nat) : Int)) ∧ w = w' := by
  have H := Lib.hid (ask8_any p c v B w h hc hs hB)
  obtain ⟨ao, cap, rfl⟩ := hs.shape
  clear h hs hB
  go_enter Try.func11, Try.ntmps11
  go_wp2_with fail
  refine H.out.mono ?_
  rintro e w2 ⟨rfl, rfl⟩
  go_wp2_with fail
  go_ret
  exact ⟨rfl, rfl⟩

def Ask16Inv (p : Nat) (v : Value) (c : Nat) (B : List Nat) (w : World) (a : Act) (w' : World) : Prop :=
  w' = w ∧ a.defers = [] ∧ a.tmps.size = 31 ∧ a.tmps[0]? = some (.pointer (some ⟨p, 0, none⟩)) ∧ a.tmps[1]? = some (.func (.func 23) #[] #[]) ∧ a.tmps[11]? = some v ∧ a.tmps[12]? = some (.int .i64 (B.length : Int)) ∧
    ∃ i, i ≤ B.length ∧ a.tmps[13]? = some (.int .i64 ((i : Nat) : Int)) ∧ a.tmps[2]? = some (.int .u16 ((crc 16 32773 c (bitsOf (B.take i)) : Nat) : Int))

set_option maxHeartbeats 400000 in
theorem ask16_any (p c : Nat) (v : Value) (B : List Nat) (w : World) (h : Tb w p) (hc : c < 65536) (hs : Sl w v (u8s B)) (hB : ∀ b ∈ B, b < 256) :
    Calls Try.prog 22 #[.pointer (some ⟨p, 0, none⟩), .func (.func 23) #[] #[], .int .u16 (c : Int), v] w fun e w' => e = .returned (.int .u16 ((crc 16 32773 c (bitsOf B) : Nat) : Int)) ∧ w = w' := by
  obtain ⟨ao, cap, rfl⟩ := hs.shape
  have HS := Lib.hid hs
  have HT := Lib.hid h
  have HB := Lib.hid hB
  have hm := hs.len
  clear hs h hB
  go_enter Try.func22, Try.ntmps22
  go_wp2
  refine wp_loop (Ask16Inv p (.slice ao B.length cap) c B w) (fun a _ => B.length - (intOf (a.tmps.getD 13 undef)).toNat) ?_ ?_
  · exact ⟨rfl, rfl, rfl, rfl, rfl, rfl, rfl, 0, Nat.zero_le _, rfl, rfl⟩
  · rintro ⟨tm, df⟩ w1 ⟨rfl, rfl, hz, h0, h1, h11, h12, i, hi, h13, h2⟩
    simp only at hz h0 h1 h11 h12 h13 h2
    obtain ⟨f, hf, hg⟩ := fr_open hz
    have e0 := hg _ _ h0
    have e1 := hg _ _ h1
    have e2 := hg _ _ h2
    have e11 := hg _ _ h11
    have e12 := hg _ _ h12
    have e13 := hg _ _ h13
    simp only [List.range, List.range.loop, List.map] at hf
    rw [e0, e1, e2, e11, e12, e13] at hf
    clear e0 e1 e2 e11 e12 e13 hg hz h0 h1 h2 h11 h12 h13
    subst hf
    have hk : crc 16 32773 c (bitsOf (B.take i)) < 65536 := crc_lt (W := 16) (by decide) _ _ hc
    by_cases hlt : i < B.length
    · have hx := getD_lt B i HB.out
      obtain ⟨b, off, rfl⟩ := HS.out.where (by omega)
      obtain ⟨b', off', cap', e, _, _, hh⟩ := HS.out.cells (by omega)
      simp only [Value.slice.injEq, Option.some.injEq, Addr.mk.injEq, and_true, true_and] at e
      obtain ⟨⟨rfl, rfl⟩, rfl⟩ := e
      have hd := hh i hlt
      clear hh
      have htk : bitsOf (B.take (i + 1)) = bitsOf (B.take i) ++ (dg 4 (B.getD i 0 / 16) ++ dg 4 (B.getD i 0 % 16)) := by
        rw [List.take_succ_eq_append_getElem hlt, bitsOf_snoc, ← dg8 _ hx]; simp [hlt]
      generalize B.getD i 0 = x at *
      have HTK := Lib.hid htk
      clear htk
      have hi1 : (i : Int) < (B.length : Int) := by omega
      have hi2 : (i : Int) < 9223372036854775807 := by simp only [maxLen] at hm; omega
      generalize hK : crc 16 32773 c (bitsOf (B.take i)) = K at *
      have HK := Lib.hid hK
      have F1 := four16_any p K (x / 16) w1 HT.out hk (by omega)
      have hk2 : crc 16 32773 K (dg 4 (x / 16)) < 65536 := crc_lt (W := 16) (by decide) _ _ hk
      have F2 := four16_any p _ (x % 16) w1 HT.out hk2 (by omega)
      have eb : crc 16 32773 (crc 16 32773 K (dg 4 (x / 16))) (dg 4 (x % 16)) = crc 16 32773 c (bitsOf (B.take (i + 1))) := by rw [HTK.out, crc_append, crc_append, HK.out]
      rw [eb] at F2
      generalize crc 16 32773 K (dg 4 (x / 16)) = K2 at *
      generalize hK3 : crc 16 32773 c (bitsOf (B.take (i + 1))) = K3 at *
      have HK3 := Lib.hid hK3
      rw [show ((x / 16 : Nat) : Int) = (x : Int) / 16 by omega] at F1
      rw [show ((x % 16 : Nat) : Int) = (x : Int) % 16 by omega] at F2
      have F1 := Lib.hid F1
      have F2 := Lib.hid F2
      clear hK hK3 eb hk hk2
      go_wp2_with fail
      refine F1.out.mono ?_
      rintro e w2 ⟨rfl, rfl⟩
      go_wp2_with fail
      refine F2.out.mono ?_
      rintro e w3 ⟨rfl, rfl⟩
      go_wp2_with fail
      refine ⟨⟨rfl, rfl, rfl, rfl, rfl, rfl, rfl, i + 1, hlt, rfl, ?_⟩, ?_⟩
      · rw [HK3.out]; rfl
      · simp [intOf]; omega
    · have e : i = B.length := by omega
      subst e
      rw [List.take_length] at *
      go_wp2
      go_ret
      exact ⟨rfl, rfl⟩

set_option maxHeartbeats 400000 in
theorem tsixteen_any (p c : Nat) (v : Value) (B : List Nat) (w : World) (h : Tb w p) (hc : c < 65536) (hs : Sl w v (u8s B)) (hB : ∀ b ∈ B, b < 256) :
    Calls Try.prog 13 #[.pointer (some ⟨p, 0, none⟩), .int .u16 (c : Int), v] w fun e w' => e = .returned (.int .u16 ((crc 16 32773 c (bitsOf B) : Nat) : Int)) ∧ w = w' := by
  have H := Lib.hid (ask16_any p c v B w h hc hs hB)
  obtain ⟨ao, cap, rfl⟩ := hs.shape
  clear h hs hB
  go_enter Try.func13, Try.ntmps13
  go_wp2_with fail
  refine H.out.mono ?_
  rintro e w2 ⟨rfl, rfl⟩
  go_wp2_with fail
  go_ret
  exact ⟨rfl, rfl⟩

end Go.Proofs.Ytiibnmejoccfkaa
