/- Package solve: numbers gone down, sums, the next factors. -/
import Derived.Test.YtdifaaimjiflgaaSolMath
import Derived.Test.YtdifaaimjiflgaaLagFit
namespace Go.Proofs.Ytdifaaimjiflgaa
open Go.RowKit Bx

set_option maxHeartbeats 400000 in
theorem units_any (z : Int) (w : World) : Calls Try.prog 20 #[.int .i64 z] w fun e w' => e = .returned (.int .i64 (z / 1048576)) ∧ w' = w := by
  go_enter Try.func20, Try.ntmps20
  go_wp2
  go_ret
  exact ⟨rfl, rfl⟩

def LowInv (vx : Value) (L : List Int) (n g s : Nat) (w : World) (a : Act) (w' : World) : Prop :=
  a.defers = [] ∧ a.tmps.size = 31 ∧ a.tmps[3]? = some (.int .i64 (s : Int)) ∧ a.tmps[4]? = some (.slice (some ⟨g, 0, none⟩) n n) ∧ a.tmps[16]? = some vx ∧ a.tmps[17]? = some (.int .i64 (n : Int)) ∧
  ∃ i : Nat, i ≤ n ∧ a.tmps[18]? = some (.int .i64 (i : Int)) ∧ w'.ownsRow w.heap.size 3 1 (.slice (some ⟨g, 0, none⟩) n n) n (ivs (fill L i)) ∧ Kept Nix w w'

theorem low_nums (n i s : Nat) (hn : n ≤ 1099511627775) (hi : i < n) (hs : s ≤ 33) :
    wrap64 ((i : Int) + 1) = ((i + 1 : Nat) : Int) ∧ (i : Int) < (n : Int) ∧ decide ((i : Int) < (n : Int)) = true ∧ decide (i < n) = true ∧ decide ((s : Int) < 0) = false ∧ ((s : Int) < 64) ∧ (s < 64) := by
  refine ⟨by unfold wrap64; omega, by omega, decide_eq_true (by omega), decide_eq_true hi, decide_eq_false (by omega), by omega, by omega⟩

theorem low_lead (a : Int) (h1 : 1 ≤ a) (h2 : a ≤ 4611686018427387904) : ∃ u : Nat, u < 2199023255552 ∧ (a / 1073741824).toNat = u ∧ a.tdiv 1073741824 = (u : Int) ∧ wrap64 (u : Int) = (u : Int) ∧ IntKind.u64.wrap (u : Int) = (u : Int) ∧ (u : Int) % 18446744073709551616 = (u : Int) := by
  refine ⟨(a / 1073741824).toNat, by omega, rfl, ?_, ?_, ?_, ?_⟩
  · rw [Int.tdiv_eq_ediv_of_nonneg (by omega)]
    omega
  · unfold wrap64; omega
  · rw [IntKind.wrap_u64]; omega
  · omega

set_option maxHeartbeats 1000000 in
theorem lowered_any (v : Value) (zs : List Int) (w : World) (hs : Sl w v (ivs zs)) (h0 : 1 ≤ zs.getD 0 0) (h1 : zs.getD 0 0 ≤ 4611686018427387904) (hm : zs.length < 1099511627776) :
    Calls Try.prog 17 #[v] w fun e w' => ∃ u, e = .returned u ∧ w'.ownsRow w.heap.size 3 1 u zs.length (ivs (low zs)) ∧ Kept Nix w w' := by
  obtain ⟨ao, ca, rfl, _⟩ := hs.ints
  have hn0 : 0 < zs.length := by
    cases zs with
    | nil => simp at h0
    | cons a t => simp
  have HT := Lib.hid (low_first _ h0 h1 (lowBy zs) rfl).1
  obtain ⟨u, hu, hut, hud, huw, huk, hum⟩ := low_lead _ h0 h1
  have HB : Hid (Lib.bitLen u = lowBy zs) := Lib.hid (by unfold lowBy; rw [hut])
  have HLn := Lib.hid (fun w => len_any u w hu)
  have SX := Lib.hid hs
  have HLX := Lib.hid (low_length zs)
  have HD := Lib.hid (low_get zs)
  have HM := Lib.hid hm
  generalize lowBy zs = s at *
  generalize low zs = L at *
  obtain ⟨b0, o0, rfl, hc0⟩ := cell_kept hs 0 hn0
  have c0 := hc0 w (Kept.refl _ w)
  rw [Nat.add_zero] at c0
  clear hs h1 hu hut hc0
  generalize hz0 : zs.getD 0 0 = z0 at *
  generalize hn : zs.length = n at *
  have HN := Lib.hid hn
  have hmk := make_int n (by omega)
  have hn0' : (0 : Int) < (n : Int) := by omega
  clear hn hm hz0 h0
  go_enter Try.func17, Try.ntmps17
  go_wp2_with (go_at_call 25; refine (HLn.out _).mono ?_; rintro e w1 ⟨rfl, rfl⟩; clear HLn; rw [HB.out])
  clear hmk
  refine wp_loop (LowInv (.slice (some ⟨b0, o0, none⟩) n ca) L n w1.heap.size s w1) (fun a _ => n - (intOf (a.tmps.getD 18 undef)).toNat) ?_ ?_
  · refine ⟨rfl, rfl, rfl, rfl, rfl, rfl, 0, Nat.zero_le _, rfl, ?_, (Kept.refl _ w1).alloc _⟩
    rw [fill_zero, HLX.out]
    exact lit_base w1 _ (Nat.le_refl _) _ n (by simp) (by have := HM.out; simp only [maxLen]; omega)
  · rintro ⟨tm, df⟩ w2 ⟨rfl, hs, h3, h4, h12, h13, i, hi, h14, ho, hk⟩
    simp only at hs h3 h4 h12 h13 h14
    obtain ⟨f, hf, hg⟩ := fr_open hs
    have e3 := hg _ _ h3
    have e4 := hg _ _ h4
    have e12 := hg _ _ h12
    have e13 := hg _ _ h13
    have e14 := hg _ _ h14
    simp only [List.range, List.range.loop, List.map] at hf
    rw [e3, e4, e12, e13, e14] at hf
    clear e3 e4 e12 e13 e14 hg hs h3 h4 h12 h13 h14
    subst hf
    have HK := Lib.hid hk
    have HO := Lib.hid ho
    clear ho hk
    have HG := Lib.hid (Nat.le_refl w1.heap.size)
    by_cases hlt : i < n
    · obtain ⟨b1, o1, he, hc1⟩ := cell_kept SX.out i (by rw [HN.out]; exact hlt)
      simp only [Option.some.injEq, Addr.mk.injEq, and_true] at he
      obtain ⟨rfl, rfl⟩ := he
      have c1 := hc1 w2 HK.out
      obtain ⟨n1, n2, n3, n4, n5, n6, n7⟩ := low_nums n i s (by have := HM.out; omega) hlt HT.out
      have N1 := Lib.hid n1
      have HI := Lib.hid hlt
      have hz : w2.frozen? ⟨w1.heap.size, i, none⟩ = false := HO.out.frozenAt i
      obtain ⟨z, c3⟩ := fill_cell HO.out HLX.out hlt
      have HS := Lib.hid (fill_set L i (by rw [HLX.out]; exact hlt))
      have HA := Lib.hid (HD.out i)
      clear n1 hlt hi hc1 hud huw huk hum c0 hn0 hn0' HB
      generalize zs.getD i 0 = xi at *
      go_wp2
      rw [N1.out]
      refine ⟨⟨rfl, rfl, rfl, rfl, rfl, rfl, i + 1, HI.out, rfl, ?_, HK.out.setCell (.inr HG.out) _⟩, nearer HI.out rfl⟩
      rw [← HS.out, HA.out, ← ivs_set]
      exact (HO.out.stored i _).1
    · have hd : decide ((i : Int) < (n : Int)) = false := decide_eq_false (by omega)
      have hd' : decide (i < n) = false := decide_eq_false hlt
      have him : i = n := by omega
      subst him
      have h := HO.out
      rw [show fill L i = L by rw [show fill L i = fill L L.length by rw [HLX.out], fill_last]] at h
      have HH := Lib.hid h
      clear h hlt hi hud huw huk hum c0
      go_wp2
      go_ret
      exact ⟨_, rfl, HH.out, HK.out⟩

def UnfInv (va : Value) (vx : Value) (x A : List Int) (m n : Nat) (w : World) (a : Act) (w' : World) : Prop :=
  a.defers = [] ∧ a.tmps.size = 37 ∧ a.tmps[0]? = some vx ∧ a.tmps[5]? = some (.int .i64 (m : Int)) ∧ a.tmps[17]? = some va ∧ a.tmps[18]? = some (.int .i64 (n : Int)) ∧
  ∃ i : Nat, i ≤ n ∧ a.tmps[19]? = some (.int .i64 (i : Int)) ∧ a.tmps[6]? = some (.int .i64 (usum x A m i)) ∧ w' = w

theorem unf_nums (m n i : Nat) (hm : m = n + 1) (hn : n < 32) (hi : i < n) : ∃ j : Nat, j = m - 1 - i ∧ j < m + 1 ∧ (j : Int) < ((m + 1 : Nat) : Int) ∧ (i : Int) < (n : Int) ∧ wrap64 ((i : Int) + 1) = ((i + 1 : Nat) : Int) ∧ wrap64 ((m : Int) - 1) = (n : Int) ∧ wrap64 ((n : Int) - (i : Int)) = (j : Int) ∧ decide ((i : Int) < (n : Int)) = true ∧ decide (i < n) = true :=
  ⟨m - 1 - i, rfl, by omega, by omega, by omega, by unfold wrap64; omega, by unfold wrap64; omega, by unfold wrap64; omega, decide_eq_true (by omega), decide_eq_true hi⟩

set_option maxHeartbeats 2000000 in
/-- The sum for the order that follows. -/
theorem unf_any (v va : Value) (x A : List Int) (e : Int) (w : World) (hs : Sl w v (ivs x)) (ha : Sl w va (ivs A)) (h : Sol x A e) (hl : x.length = A.length + 2) (hA : A.length < 32) :
    Calls Try.prog 18 #[v, va] w fun e w' => e = .returned (.int .i64 (usum x A (A.length + 1) A.length)) ∧ w' = w := by
  obtain ⟨ao, ca, rfl, _⟩ := hs.ints
  obtain ⟨ba, cb, rfl, hal, _⟩ := ha.ints
  have SX := Lib.hid hs
  have SA := Lib.hid ha
  have HA := Lib.hid hA
  have HL := Lib.hid hl
  obtain ⟨b0, o0, rfl, hc0⟩ := cell_kept hs (A.length + 1) (by omega)
  have c0 := hc0 w (Kept.refl _ w)
  have h0 := usum_zero x A (A.length + 1)
  have hb0 := usum_bd h (A.length + 1) 0 (by omega)
  rw [h0] at hb0
  have hw0 : wrap64 (x.getD (A.length + 1) 0 * 1048576) = usum x A (A.length + 1) 0 := by rw [h0]; unfold wrap64; omega
  have HW0 := Lib.hid hw0
  have HH := Lib.hid h
  have hi1 : ((A.length + 1 : Nat) : Int) < (x.length : Int) := by omega
  have hm1 : wrap64 ((x.length : Int) - 1) = ((A.length + 1 : Nat) : Int) := by rw [hl]; unfold wrap64; omega
  have HM1 := Lib.hid hm1
  clear hs ha h hb0 h0 hl hA hw0 hc0 hal
  generalize hmm : A.length + 1 = m at *
  have HMM := Lib.hid hmm
  generalize hla : A.length = n at *
  have HLA := Lib.hid hla
  clear hmm hla
  generalize x.getD m 0 = xm at *
  generalize hln : x.length = l at *
  have HLN := Lib.hid hln
  clear hln
  go_enter Try.func18, Try.ntmps18
  go_wp2
  rw [HM1.out, HW0.out]
  clear c0 hm1 hi1 HM1 HW0
  refine wp_loop (UnfInv (.slice ba n cb) (.slice (some ⟨b0, o0, none⟩) l ca) x A m n w) (fun a _ => n - (intOf (a.tmps.getD 19 undef)).toNat) ?_ ?_
  · exact ⟨rfl, rfl, rfl, rfl, rfl, rfl, 0, Nat.zero_le _, rfl, rfl, rfl⟩
  · rintro ⟨tm, df⟩ w2 ⟨rfl, hs, h0, h5, h17, h18, i, hi, h19, h6, rfl⟩
    simp only at hs h0 h5 h17 h18 h19 h6
    obtain ⟨f, hf, hg⟩ := fr_open hs
    have e0 := hg _ _ h0
    have e5 := hg _ _ h5
    have e17 := hg _ _ h17
    have e18 := hg _ _ h18
    have e19 := hg _ _ h19
    have e6 := hg _ _ h6
    simp only [List.range, List.range.loop, List.map] at hf
    rw [e0, e5, e17, e18, e19, e6] at hf
    clear e0 e5 e17 e18 e19 e6 hg hs h0 h5 h17 h18 h19 h6
    subst hf
    by_cases hlt : i < n
    · obtain ⟨j, hj, j1, j2, i1, n1, n2, n3, n4, n5⟩ := unf_nums m n i HMM.out.symm HA.out hlt
      obtain ⟨b1, o1, rfl, hc1⟩ := cell_kept SA.out i (by rw [HLA.out]; exact hlt)
      have c1 := hc1 w2 (Kept.refl _ _)
      obtain ⟨b2, o2, he, hc2⟩ := cell_kept SX.out j (by rw [HLN.out, HL.out]; have := HMM.out; omega)
      simp only [Option.some.injEq, Addr.mk.injEq, and_true] at he
      obtain ⟨rfl, rfl⟩ := he
      have c2 := hc2 w2 (Kept.refl _ _)
      obtain ⟨-, m1, m2⟩ := usum_nums HH.out m i (by have := HA.out; omega)
      have hjl : (j : Int) < (l : Int) := by have := HL.out; have := HMM.out; omega
      rw [← hj] at m1 m2
      have N1 := Lib.hid n1
      have M2 := Lib.hid m2
      have HI := Lib.hid hlt
      clear hj j1 j2 n1 hlt hi hc1 hc2 m2
      generalize A.getD i 0 = ai at *
      generalize x.getD j 0 = xj at *
      generalize hU : usum x A m (i + 1) = U at *
      have HU := Lib.hid hU
      clear hU
      generalize usum x A m i = u at *
      go_wp2
      rw [N1.out]
      refine ⟨⟨rfl, rfl, rfl, rfl, rfl, rfl, i + 1, HI.out, rfl, ?_, rfl⟩, nearer HI.out rfl⟩
      rw [HU.out, ← M2.out]
      rfl
    · have hd : decide ((i : Int) < (n : Int)) = false := decide_eq_false (by omega)
      have hd' : decide (i < n) = false := decide_eq_false hlt
      have him : i = n := by omega
      subst him
      clear hlt hi
      go_wp2
      go_ret
      exact ⟨rfl, rfl⟩

def ExtInv (va vx : Value) (q : Int) (L : List Int) (n m g : Nat) (w : World) (a : Act) (w' : World) : Prop :=
  a.defers = [] ∧ a.tmps.size = 42 ∧ a.tmps[0]? = some va ∧ a.tmps[1]? = some (.int .i64 q) ∧ a.tmps[5]? = some (.int .i64 (n : Int)) ∧ a.tmps[6]? = some (.slice (some ⟨g, 0, none⟩) m m) ∧ a.tmps[14]? = some vx ∧ a.tmps[15]? = some (.int .i64 (n : Int)) ∧
  ∃ i : Nat, i ≤ n ∧ a.tmps[16]? = some (.int .i64 (i : Int)) ∧ w'.ownsRow w.heap.size 3 1 (.slice (some ⟨g, 0, none⟩) m m) m (ivs (fill L i)) ∧ Kept Nix w w'

theorem ext_idx (n m i : Nat) (hm : n + 1 = m) (hn : n < 32) (hi : i < n) : ∃ j : Nat, j = n - 1 - i ∧ j < n ∧ (j : Int) < (n : Int) ∧ (i : Int) < (n : Int) ∧ wrap64 ((i : Int) + 1) = ((i + 1 : Nat) : Int) ∧ wrap64 ((n : Int) - 1) = (n : Int) - 1 ∧ wrap64 ((n : Int) - 1 - (i : Int)) = (j : Int) ∧ decide ((i : Int) < (n : Int)) = true ∧ decide (i < n) = true ∧ (i : Int) < (m : Int) ∧ i < m :=
  ⟨n - 1 - i, rfl, by omega, by omega, by omega, by unfold wrap64; omega, by unfold wrap64; omega, by unfold wrap64; omega, decide_eq_true (by omega), decide_eq_true hi, by omega, by omega⟩

theorem ext_wraps (p ai : Int) (h1 : p.natAbs ≤ 70368744177664) (h2 : (ai - p / 1048576).natAbs ≤ 134217728) : wrap64 p = p ∧ wrap64 (ai - p / 1048576) = ai - p / 1048576 := by
  exact ⟨by unfold wrap64; omega, by unfold wrap64; omega⟩

set_option maxHeartbeats 2000000 in
theorem ext_any (va : Value) (x A : List Int) (e q : Int) (w : World) (ha : Sl w va (ivs A)) (h : Sol x A e) (hq : -1048576 < q ∧ q < 1048576) (hA : A.length < 32) :
    Calls Try.prog 19 #[va, .int .i64 q] w fun e w' => ∃ u, e = .returned u ∧ w'.ownsRow w.heap.size 3 1 u (A.length + 1) (ivs (ext A q)) ∧ Kept Nix w w' := by
  obtain ⟨ba, cb, rfl, hal, _⟩ := ha.ints
  have SA := Lib.hid ha
  have HA := Lib.hid hA
  have HX := Lib.hid (fun i => ext_nums h q hq i)
  have HG := Lib.hid (fun i hi => ext_get A q i hi)
  have HLQ := Lib.hid (ext_last A q)
  have HLL := Lib.hid (ext_length A q)
  clear ha h hq hal
  generalize ext A q = L at *
  generalize hmm : A.length + 1 = m at *
  generalize hla : A.length = n at *
  have HLA := Lib.hid hla
  have HMM := Lib.hid hmm
  have hmk := make_int m (by omega)
  have hw1 : wrap64 ((n : Int) + 1) = (m : Int) := by unfold wrap64; omega
  clear hA hla hmm
  go_enter Try.func19, Try.ntmps19
  go_wp2
  clear hmk hw1
  refine wp_loop (ExtInv (.slice ba n cb) (.slice ba n cb) q L n m w.heap.size w) (fun a _ => n - (intOf (a.tmps.getD 16 undef)).toNat) ?_ ?_
  · refine ⟨rfl, rfl, rfl, rfl, rfl, rfl, rfl, rfl, 0, Nat.zero_le _, rfl, ?_, (Kept.refl _ w).alloc _⟩
    rw [fill_zero, HLL.out]
    exact lit_base w _ (Nat.le_refl _) _ m (by simp) (by have := HA.out; have := HMM.out; simp only [maxLen]; omega)
  · rintro ⟨tm, df⟩ w2 ⟨rfl, hs, h0, h1, h5, h6, h14, h15, i, hi, h16, ho, hk⟩
    simp only at hs h0 h1 h5 h6 h14 h15 h16
    obtain ⟨f, hf, hg⟩ := fr_open hs
    have e0 := hg _ _ h0
    have e1 := hg _ _ h1
    have e5 := hg _ _ h5
    have e6 := hg _ _ h6
    have e14 := hg _ _ h14
    have e15 := hg _ _ h15
    have e16 := hg _ _ h16
    simp only [List.range, List.range.loop, List.map] at hf
    rw [e0, e1, e5, e6, e14, e15, e16] at hf
    clear e0 e1 e5 e6 e14 e15 e16 hg hs h0 h1 h5 h6 h14 h15 h16
    subst hf
    have HK := Lib.hid hk
    have HO := Lib.hid ho
    clear ho hk
    have HGE := Lib.hid (Nat.le_refl w.heap.size)
    by_cases hlt : i < n
    · obtain ⟨j, hj, j1, j2, i1, n1, n2, n3, n4, n5, n6, n7⟩ := ext_idx n m i HMM.out HA.out hlt
      obtain ⟨b1, o1, rfl, hc1⟩ := cell_kept SA.out i (by rw [HLA.out]; exact hlt)
      have c1 := hc1 w2 HK.out
      obtain ⟨b2, o2, he, hc2⟩ := cell_kept SA.out j (by rw [HLA.out]; exact j1)
      simp only [Option.some.injEq, Addr.mk.injEq, and_true] at he
      obtain ⟨rfl, rfl⟩ := he
      have c2 := hc2 w2 HK.out
      have HGI := HG.out i hlt
      obtain ⟨q1, q2⟩ := HX.out i
      rw [← hj] at q1 q2 HGI
      have hz : w2.frozen? ⟨w.heap.size, i, none⟩ = false := HO.out.frozenAt i
      obtain ⟨z, c3⟩ := fill_cell HO.out HLL.out n7
      have HS := Lib.hid (fill_set L i (by rw [HLL.out]; exact n7))
      have HGI := Lib.hid HGI
      have N1 := Lib.hid n1
      have HI := Lib.hid hlt
      clear hj j1 n1 n7 hlt hi hc1 hc2
      generalize A.getD i 0 = ai at *
      generalize A.getD j 0 = aj at *
      obtain ⟨p1, p2⟩ := ext_wraps (q * aj) ai q1 q2
      have P1 := Lib.hid p1
      have P2 := Lib.hid p2
      clear q1 q2 p1 p2
      go_wp2_with (go_at_call 20; refine (units_any _ _).mono ?_; rintro e w3 ⟨rfl, rfl⟩)
      rw [N1.out, P1.out, P2.out, ← HGI.out]
      refine ⟨⟨rfl, rfl, rfl, rfl, rfl, rfl, rfl, rfl, i + 1, HI.out, rfl, ?_, HK.out.setCell (.inr HGE.out) _⟩, nearer HI.out rfl⟩
      rw [← HS.out, ← ivs_set]
      exact (HO.out.stored i _).1
    · have hd : decide ((i : Int) < (n : Int)) = false := decide_eq_false (by omega)
      have hd' : decide (i < n) = false := decide_eq_false hlt
      have him : i = n := by omega
      subst him
      have n6 : (i : Int) < (m : Int) := by have := HMM.out; omega
      have n7 : i < m := by have := HMM.out; omega
      have hz : w2.frozen? ⟨w.heap.size, i, none⟩ = false := HO.out.frozenAt i
      obtain ⟨z, c3⟩ := fill_cell HO.out HLL.out n7
      have HS := Lib.hid (fill_set L i (by rw [HLL.out]; exact n7))
      have h := (HO.out.stored i (.int .i64 (L.getD i 0))).1
      rw [ivs_set, HS.out, show i + 1 = L.length by rw [HLL.out, HMM.out], fill_last, HLQ.out] at h
      have HH := Lib.hid h
      have HK2 := Lib.hid (HK.out.setCell (p := ⟨w.heap.size, i, none⟩) (.inr HGE.out) (.int .i64 q))
      clear h hlt hi n7
      go_wp2
      go_ret
      exact ⟨_, rfl, HH.out, HK2.out⟩

end Go.Proofs.Ytdifaaimjiflgaa
