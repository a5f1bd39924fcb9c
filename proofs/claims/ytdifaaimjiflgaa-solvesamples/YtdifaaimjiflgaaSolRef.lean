/- The reference of layer 10: Right, Same (of equal ones). -/
import Derived.Test.YtdifaaimjiflgaaSolSolve
namespace Go.Proofs.Ytdifaaimjiflgaa
open Go.RowKit Bx

def inR (a : Int) (zs : List Int) : Bool := zs.all (fun z => !(decide (a < z) || decide (z < -a)))
def rtB (zs : List Int) : Bool := decide (zs = []) || (decide (0 ≤ zs.getD 0 0) && decide (zs.getD 0 0 ≤ 4611686018427387904) && inR (zs.getD 0 0) zs)

theorem inR_take (a : Int) (zs : List Int) (i : Nat) (h : i < zs.length) : inR a (zs.take (i + 1)) = (inR a (zs.take i) && !(decide (a < zs.getD i 0) || decide (zs.getD i 0 < -a))) := by
  unfold inR
  rw [List.take_succ_eq_append_getElem h, List.all_append]
  simp [List.getD, h]

theorem inR_out (a : Int) (zs : List Int) (i : Nat) (h : i < zs.length) (hf : (decide (a < zs.getD i 0) || decide (zs.getD i 0 < -a)) = true) : inR a zs = false := by
  rw [Bool.eq_false_iff]
  intro hc
  have h1 : inR a (zs.take (i + 1)) = true := by
    unfold inR at hc ⊢
    rw [List.all_eq_true] at hc ⊢
    exact fun z hz => hc z (List.mem_of_mem_take hz)
  rw [inR_take a zs i h, hf] at h1
  simp at h1

theorem rt_of {zs : List Int} (h : rtB zs = true) : Rt zs := by
  unfold rtB inR at h
  simp only [Bool.or_eq_true, Bool.and_eq_true, decide_eq_true_eq, List.all_eq_true, Bool.not_eq_true', Bool.or_eq_false_iff, decide_eq_false_iff_not] at h
  rcases h with h | ⟨⟨h1, h2⟩, h3⟩
  · exact .inl h
  · refine .inr ⟨h1, h2, fun i hi => ?_⟩
    have := h3 (zs.getD i 0) (by simp only [List.getD, List.getElem?_eq_getElem hi, Option.getD_some]; exact List.getElem_mem hi)
    omega

theorem of_rt {zs : List Int} (h : Rt zs) : rtB zs = true := by
  unfold rtB inR
  simp only [Bool.or_eq_true, Bool.and_eq_true, decide_eq_true_eq, List.all_eq_true, Bool.not_eq_true', Bool.or_eq_false_iff, decide_eq_false_iff_not]
  rcases h with h | ⟨h1, h2, h3⟩
  · exact .inl h
  · refine .inr ⟨⟨h1, h2⟩, fun z hz => ?_⟩
    obtain ⟨i, hi, rfl⟩ := List.mem_iff_getElem.1 hz
    have := h3 i hi
    rw [show zs.getD i 0 = zs[i] by simp [List.getD, hi]] at this
    omega

def RightInv (v : Value) (zs : List Int) (a0 : Int) (n : Nat) (w : World) (a : Act) (w' : World) : Prop :=
  a.defers = [] ∧ a.tmps.size = 42 ∧ a.tmps[0]? = some v ∧ ∃ i : Nat, i ≤ n ∧ a.tmps[3]? = some (.int .i64 (i : Int)) ∧ inR a0 (zs.take i) = true ∧ ∃ nn, w' = w.drewN nn

set_option maxHeartbeats 2000000 in
theorem right_any (v : Value) (zs : List Int) (w : World) (hs : Sl w v (ivs zs)) :
    Calls Try.prog 10 #[v] w fun e w' => e = .returned (.bool (rtB zs)) ∧ ∃ nn, w' = w.drewN nn := by
  obtain ⟨ao, cap, rfl, hl1, hl2, -⟩ := hs.ints
  have HLM := Lib.hid (show zs.length ≤ 9223372036854775807 by simp only [maxLen] at hl2; omega)
  by_cases h0 : zs.length = 0
  · have hz : zs = [] := List.eq_nil_of_length_eq_zero h0
    subst hz
    clear hs hl1 hl2 h0
    go_enter Try.func10, Try.ntmps10
    go_wp2
    go_ret
    exact ⟨rfl, 0, rfl⟩
  · have hp : 0 < zs.length := by omega
    have he : decide (zs = []) = false := decide_eq_false (fun e => h0 (by rw [e]; rfl))
    obtain ⟨b0, o0, rfl, hc0⟩ := cell_kept hs 0 hp
    have c0 := hc0 w (Kept.refl _ w)
    rw [Nat.add_zero] at c0
    have C0 := Lib.hid (fun nn => hc0 (w.drewN nn) ((Kept.refl _ w).drewN nn))
    simp only [Nat.add_zero] at C0
    have SX := Lib.hid hs
    have HR : Hid (rtB zs = (decide (0 ≤ zs.getD 0 0) && decide (zs.getD 0 0 ≤ 4611686018427387904) && inR (zs.getD 0 0) zs)) := Lib.hid (by unfold rtB; rw [he]; rfl)
    have e1 : ((zs.length : Int) == 0) = false := beq_false_of_ne (by omega)
    clear hs hl1 hl2 h0 hc0 he
    generalize hz0 : zs.getD 0 0 = z0 at *
    generalize hn : zs.length = n at *
    have HN := Lib.hid hn
    clear hn hz0
    by_cases hb1 : z0 < 0
    · have t1 : decide (z0 < 0) = true := decide_eq_true hb1
      have HT : Hid (rtB zs = false) := Lib.hid (by rw [HR.out, show decide (0 ≤ z0) = false from decide_eq_false (by omega)]; rfl)
      clear hb1
      go_enter Try.func10, Try.ntmps10
      go_wp2
      go_ret
      exact ⟨by rw [HT.out]; rfl, 0, rfl⟩
    by_cases hb2 : 4611686018427387904 < z0
    · have t1 : decide (z0 < 0) = false := decide_eq_false hb1
      have t2 : decide (4611686018427387904 < z0) = true := decide_eq_true hb2
      have HT : Hid (rtB zs = false) := Lib.hid (by rw [HR.out, show decide (z0 ≤ 4611686018427387904) = false from decide_eq_false (by omega), Bool.and_false]; rfl)
      clear hb1 hb2
      go_enter Try.func10, Try.ntmps10
      go_wp2
      go_ret
      exact ⟨by rw [HT.out]; rfl, 0, rfl⟩
    have t1 : decide (z0 < 0) = false := decide_eq_false hb1
    have t2 : decide (4611686018427387904 < z0) = false := decide_eq_false hb2
    have HT : Hid (rtB zs = inR z0 zs) := Lib.hid (by rw [HR.out, show decide (0 ≤ z0) = true from decide_eq_true (by omega), show decide (z0 ≤ 4611686018427387904) = true from decide_eq_true (by omega)]; rfl)
    have hng : wrap64 (-z0) = -z0 ∧ IntKind.i64.wrap (-z0) = -z0 := ⟨w64_in _ (by omega), IntWalk.i64_in _ (by omega)⟩
    have HNG := Lib.hid hng
    clear hb1 hb2 HR hng
    go_enter Try.func10, Try.ntmps10
    go_wp2
    clear t1 t2 c0 e1
    refine wp_loop (RightInv (.slice (some ⟨b0, o0, none⟩) n cap) zs z0 n w) (fun a _ => n - (intOf (a.tmps.getD 3 undef)).toNat) ?_ ?_
    · exact ⟨rfl, rfl, rfl, 0, Nat.zero_le _, rfl, rfl, 0, rfl⟩
    · rintro ⟨tm, df⟩ w1 ⟨rfl, hs, e0, i, hi, e3, hin, n1, rfl⟩
      simp only at hs e0 e3
      obtain ⟨f, hf, hg⟩ := fr_open hs
      have g0 := hg _ _ e0
      have g3 := hg _ _ e3
      simp only [List.range, List.range.loop, List.map] at hf
      rw [g0, g3] at hf
      clear g0 g3 hg hs e0 e3
      subst hf
      have HIN := Lib.hid hin
      clear hin
      by_cases hlt : i < n
      · have hd : decide (i < n) = true := decide_eq_true hlt
        obtain ⟨b1, o1, he, hc1⟩ := cell_kept SX.out i (by rw [HN.out]; exact hlt)
        simp only [Option.some.injEq, Addr.mk.injEq, and_true] at he
        obtain ⟨rfl, rfl⟩ := he
        have c1 := hc1 _ ((Kept.refl _ w).drewN n1)
        have c0 := C0.out n1
        have i1 : (i : Int) < (n : Int) := by omega
        have hwi : wrap64 ((i : Int) + 1) = ((i + 1 : Nat) : Int) := by have := HLM.out; unfold wrap64; omega
        have HWI := Lib.hid hwi
        have HI := Lib.hid hlt
        have HTK := Lib.hid (inR_take z0 zs i (by rw [HN.out]; exact hlt))
        have HO := Lib.hid (fun hf => inR_out z0 zs i (by rw [HN.out]; exact hlt) hf)
        obtain ⟨g1, g2⟩ := HNG.out
        have hn0 : 0 < n := by omega
        have hn0' : (0 : Int) < (n : Int) := by omega
        clear hlt hi hc1 hwi
        generalize zs.getD i 0 = zi at *
        generalize hwx : w.drewN n1 = wx at *
        have HWX := Lib.hid hwx
        clear hwx
        by_cases hb1 : z0 < zi
        · have t1 : decide (z0 < zi) = true := decide_eq_true hb1
          have HT2 : Hid (rtB zs = false) := Lib.hid (by rw [HT.out]; exact HO.out (by rw [t1]; rfl))
          clear hb1
          go_wp2
          go_quiet (fail)
          go_wp2
          go_ret
          exact ⟨by rw [HT2.out]; rfl, _, by rw [← HWX.out]; exact World.drewN_drewN _ _ _⟩
        by_cases hb2 : zi < -z0
        · have t1 : decide (z0 < zi) = false := decide_eq_false hb1
          have t2 : decide (zi < -z0) = true := decide_eq_true hb2
          have HT2 : Hid (rtB zs = false) := Lib.hid (by rw [HT.out]; exact HO.out (by rw [t1, t2]; rfl))
          clear hb1 hb2
          go_wp2
          go_quiet (fail)
          go_wp2
          go_ret
          exact ⟨by rw [HT2.out]; rfl, _, by rw [← HWX.out]; exact World.drewN_drewN _ _ _⟩
        have t1 : decide (z0 < zi) = false := decide_eq_false hb1
        have t2 : decide (zi < -z0) = false := decide_eq_false hb2
        clear hb1 hb2
        go_wp2
        go_quiet (fail)
        go_wp2
        rw [HWI.out]
        refine ⟨⟨rfl, rfl, rfl, i + 1, HI.out, rfl, ?_, _, by rw [← HWX.out]; exact World.drewN_drewN _ _ _⟩, nearer HI.out rfl⟩
        rw [HTK.out, HIN.out, t1, t2]
        rfl
      · have hd : decide ((i : Int) < (n : Int)) = false := decide_eq_false (by omega)
        have hd' : decide (i < n) = false := decide_eq_false hlt
        have him : i = n := by omega
        have HT2 : Hid (rtB zs = true) := Lib.hid (by rw [HT.out]; have h := HIN.out; rwa [him, ← HN.out, List.take_length] at h)
        clear hlt hi him
        go_wp2
        go_ret
        exact ⟨by rw [HT2.out]; rfl, _, rfl⟩

def SameO (va vb : Value) (L : List (List Int)) (w : World) (a : Act) (w' : World) : Prop :=
  a.defers = [] ∧ a.tmps.size = 53 ∧ a.tmps[0]? = some va ∧ a.tmps[1]? = some vb ∧ ∃ i : Nat, i ≤ L.length ∧ a.tmps[5]? = some (.int .i64 (i : Int)) ∧ ∃ nn, w' = w.drewN nn

def SameI (va vb : Value) (i n : Nat) (w : World) (a : Act) (w' : World) : Prop :=
  a.defers = [] ∧ a.tmps.size = 53 ∧ a.tmps[0]? = some va ∧ a.tmps[1]? = some vb ∧ a.tmps[5]? = some (.int .i64 (i : Int)) ∧ ∃ k : Nat, k ≤ n ∧ a.tmps[6]? = some (.int .i64 (k : Int)) ∧ ∃ nn, w' = w.drewN nn

set_option maxHeartbeats 4000000 in
theorem same_eq (va vb : Value) (L : List (List Int)) (w : World) (ha : Chs w va L) (hb : Chs w vb L) :
    Calls Try.prog 11 #[va, vb] w fun e w' => e = .returned (.bool true) ∧ ∃ nn, w' = w.drewN nn := by
  obtain ⟨ao, ca, rfl, hc1, hm1, -⟩ := ha.open
  obtain ⟨bo, cb, rfl, -, -, -⟩ := hb.open
  have HLM := Lib.hid (show L.length ≤ 9223372036854775807 by simp only [maxLen] at hm1; omega)
  have HA := Lib.hid ha
  have HB := Lib.hid hb
  have t1 : ((L.length : Int) != (L.length : Int)) = false := by simp
  clear ha hb hc1 hm1
  generalize hl : L.length = l at *
  have HL := Lib.hid hl
  clear hl
  go_enter Try.func11, Try.ntmps11
  go_wp2
  clear t1
  refine wp_loop (SameO (.slice ao l ca) (.slice bo l cb) L w) (fun a _ => l - (intOf (a.tmps.getD 5 undef)).toNat) ?_ ?_
  · exact ⟨rfl, rfl, rfl, rfl, 0, Nat.zero_le _, rfl, 0, rfl⟩
  · rintro ⟨tm, df⟩ w1 ⟨rfl, hs, e0, e1, i, hi, e5, n1, rfl⟩
    simp only at hs e0 e1 e5
    obtain ⟨f, hf, hg⟩ := fr_open hs
    have g0 := hg _ _ e0
    have g1 := hg _ _ e1
    have g5 := hg _ _ e5
    simp only [List.range, List.range.loop, List.map] at hf
    rw [g0, g1, g5] at hf
    clear g0 g1 g5 hg hs e0 e1 e5
    subst hf
    rw [HL.out] at hi
    by_cases hlt : i < l
    · have hd : decide (i < l) = true := decide_eq_true hlt
      obtain ⟨p1, o1, rfl, _, A1, C1, hh1⟩ := HA.out.at (by rw [HL.out]; omega)
      obtain ⟨p2, o2, rfl, _, A2, C2, hh2⟩ := HB.out.at (by rw [HL.out]; omega)
      obtain ⟨y1, s1⟩ := hh1 i (by rw [HL.out]; exact hlt)
      obtain ⟨y2, s2⟩ := hh2 i (by rw [HL.out]; exact hlt)
      have Y1 : ∀ nn, (w.drewN nn).cell? ⟨p1, o1 + i, none⟩ = some (.slice (A1 i) (L.getD i []).length (C1 i)) := fun _ => y1
      have Y2 : ∀ nn, (w.drewN nn).cell? ⟨p2, o2 + i, none⟩ = some (.slice (A2 i) (L.getD i []).length (C2 i)) := fun _ => y2
      have HY1 := Lib.hid Y1
      have HY2 := Lib.hid Y2
      have S1 := Lib.hid (sl_ivs s1)
      have S2 := Lib.hid (sl_ivs s2)
      have i1 : (i : Int) < (l : Int) := by omega
      have hwi : wrap64 ((i : Int) + 1) = ((i + 1 : Nat) : Int) := by have := HLM.out; unfold wrap64; omega
      have HWI := Lib.hid hwi
      have HI := Lib.hid hlt
      have hrl := row_len s1
      clear hlt hi hwi hh1 hh2 y1 y2 s1 s2 Y1 Y2
      have y1 := HY1.out n1
      have y2 := HY2.out n1
      generalize L.getD i [] = row at *
      generalize A1 i = a1 at *
      generalize A2 i = a2 at *
      generalize C1 i = c1 at *
      generalize C2 i = c2 at *
      generalize hn : row.length = n at *
      have HN := Lib.hid hn
      have HRL := Lib.hid (show n ≤ 9223372036854775807 by simp only [maxLen] at hrl; omega)
      have t2 : ((n : Int) != (n : Int)) = false := by simp
      clear hn hrl
      generalize hwx : w.drewN n1 = wx at *
      have HWX := Lib.hid hwx
      clear hwx
      go_wp2
      go_quiet (fail)
      have HWY := Lib.hid (show wx.drewN nq = w.drewN (n1 + nq) by rw [← HWX.out, World.drewN_drewN])
      generalize hwy : wx.drewN nq = wy at *
      clear hwy y1 y2 t2
      go_wp2
      refine wp_loop (SameI (.slice (some ⟨p1, o1, none⟩) l ca) (.slice (some ⟨p2, o2, none⟩) l cb) i n w) (fun a _ => n - (intOf (a.tmps.getD 6 undef)).toNat) ?_ ?_
      · exact ⟨rfl, rfl, rfl, rfl, rfl, 0, Nat.zero_le _, rfl, _, HWY.out⟩
      · rintro ⟨tm, df⟩ w3 ⟨rfl, hs, e0, e1, e5, k, hk, e6, n3, rfl⟩
        simp only at hs e0 e1 e5 e6
        obtain ⟨f3, hf, hg⟩ := fr_open hs
        have g0 := hg _ _ e0
        have g1 := hg _ _ e1
        have g5 := hg _ _ e5
        have g6 := hg _ _ e6
        simp only [List.range, List.range.loop, List.map] at hf
        rw [g0, g1, g5, g6] at hf
        clear g0 g1 g5 g6 hg hs e0 e1 e5 e6
        subst hf
        have y1 := HY1.out n3
        have y2 := HY2.out n3
        by_cases hlt : k < n
        · obtain ⟨q1, r1, rfl, hc1⟩ := cell_kept S1.out k (by rw [HN.out]; exact hlt)
          obtain ⟨q2, r2, rfl, hc2⟩ := cell_kept S2.out k (by rw [HN.out]; exact hlt)
          have x1 := hc1 _ ((Kept.refl _ w).drewN n3)
          have x2 := hc2 _ ((Kept.refl _ w).drewN n3)
          have k1 : (k : Int) < (n : Int) := by omega
          have d1 : decide (k < n) = true := decide_eq_true hlt
          have hwk : wrap64 ((k : Int) + 1) = ((k + 1 : Nat) : Int) := by have := HRL.out; unfold wrap64; omega
          have HWK := Lib.hid hwk
          have HK := Lib.hid hlt
          clear hlt hk hc1 hc2 hwk
          generalize row.getD k 0 = z at *
          have t3 : (z != z) = false := by simp
          generalize hwx : w.drewN n3 = wz at *
          have HWZ := Lib.hid hwx
          clear hwx
          go_wp2
          go_quiet (fail)
          go_wp2
          rw [HWK.out]
          exact ⟨⟨rfl, rfl, rfl, rfl, rfl, k + 1, HK.out, rfl, _, by rw [← HWZ.out]; exact World.drewN_drewN _ _ _⟩, nearer HK.out rfl⟩
        · have d1 : decide (k < n) = false := decide_eq_false hlt
          clear hlt hk
          go_wp2
          rw [HWI.out]
          exact ⟨⟨rfl, rfl, rfl, rfl, i + 1, by rw [HL.out]; exact HI.out, rfl, _, rfl⟩, nearer HI.out rfl⟩
    · have hd : decide (i < l) = false := decide_eq_false hlt
      clear hlt hi
      go_wp2
      go_ret
      exact ⟨rfl, _, rfl⟩

end Go.Proofs.Ytdifaaimjiflgaa
