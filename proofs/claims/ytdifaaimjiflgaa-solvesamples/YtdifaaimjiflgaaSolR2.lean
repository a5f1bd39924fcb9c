/- The reference of layer 10: pieces of Solve: by how much all are divided; the numbers, divided. -/
import Derived.Test.YtdifaaimjiflgaaSolR4
namespace Go.Proofs.Ytdifaaimjiflgaa
open Go.RowKit Bx

noncomputable def rsolL1 : Code := (loopAt 4 (Try.f13.body.getD .skip)).getD .skip
noncomputable def rsolL2 : Code := (loopAt 8 (Try.f13.body.getD .skip)).getD .skip

def RH (v : Value) (order : Int) (a : Act) : Prop := a.defers = [] ∧ a.tmps.size = 167 ∧ a.tmps[0]? = some v ∧ a.tmps[1]? = some (.int .i64 order)

def R1Inv (v : Value) (order : Int) (t : Nat) (w : World) (a : Act) (w' : World) : Prop :=
  RH v order a ∧ ∃ i : Nat, i ≤ t ∧ a.tmps[5]? = some (.int .i64 ((2 : Int) ^ i)) ∧ w' = w

theorem r1_nums (z : Int) (h1 : 1 ≤ z) (h2 : z ≤ 4611686018427387904) (t i : Nat) (ht : t = Lib.bitLen (z / 1073741824).toNat) (hi : i ≤ t) :
    ∃ p qq : Int, (2 : Int) ^ i = p ∧ ¬ p = 0 ∧ z.tdiv p = qq ∧ wrap64 qq = qq ∧ (decide (1073741824 ≤ qq) = decide (i < t)) ∧ (2 : Int) ^ (i + 1) = 2 * p ∧ wrap64 (2 * p) = 2 * p ∧ 0 < p ∧ p ≤ 8589934592 := by
  obtain ⟨t33, a1, a2, a3, a4⟩ := low_first z h1 h2 t ht
  have hp := pow_pos2 i
  have hle := pow_le2 (a := i) (b := 33) (by omega)
  have hd : z.tdiv ((2 : Int) ^ i) = z / (2 : Int) ^ i := Int.tdiv_eq_ediv_of_nonneg (by omega)
  have hb : (z.tdiv ((2 : Int) ^ i)).natAbs ≤ z.natAbs := by rw [Int.natAbs_tdiv]; exact Nat.div_le_self _ _
  refine ⟨_, _, rfl, by omega, rfl, w64_in _ (by omega), ?_, by rw [Int.pow_succ, Int.mul_comm], w64_in _ (by omega), hp, by omega⟩
  rw [hd]
  by_cases h : i < t
  · rw [decide_eq_true h]
    apply decide_eq_true
    have h5 := a4 (by omega)
    have h6 := pow_le2 (a := i) (b := t - 1) (by omega)
    exact Int.le_ediv_of_mul_le hp (by omega)
  · rw [decide_eq_false h]
    apply decide_eq_false
    have : i = t := by omega
    subst this
    omega

set_option maxRecDepth 10000 in
set_option maxHeartbeats 4000000 in
theorem rsol_l1 (v : Value) (order : Int) (zs : List Int) (a : Act) (w : World) (Q : Exit → Act → World → Prop) (hrh : RH v order a) (h5 : a.tmps[5]? = some (.int .i64 1)) (hs : Sl w v (ivs zs)) (hz1 : 1 ≤ zs.getD 0 0) (hz2 : zs.getD 0 0 ≤ 4611686018427387904)
    (hQ : ∀ a', RH v order a' → a'.tmps[5]? = some (.int .i64 ((2 : Int) ^ lowBy zs)) → Q (.exit 0) a' w) : Code.wp Try.prog rsolL1 Q a w := by
  obtain ⟨ao, ac, rfl, -, -⟩ := hs.ints
  have hn0 : 0 < zs.length := by
    cases zs with
    | nil => simp at hz1
    | cons a t => simp
  obtain ⟨b0, o0, rfl, hc0⟩ := cell_kept hs 0 hn0
  have c0 := hc0 w (Kept.refl _ w)
  rw [Nat.add_zero] at c0
  have HR := Lib.hid (fun i hi => r1_nums (zs.getD 0 0) hz1 hz2 (lowBy zs) i rfl hi)
  have HQ := Lib.hid hQ
  have C0 := Lib.hid c0
  have hl0' : (0 : Int) < (zs.length : Int) := by omega
  clear hs hz1 hz2 hc0 hQ c0
  generalize lowBy zs = t at *
  generalize zs.getD 0 0 = z at *
  generalize zs.length = l at *
  have HN0 := Lib.hid (And.intro hn0 hl0')
  refine wp_loop (R1Inv (.slice (some ⟨b0, o0, none⟩) l ac) order t w) (fun a _ => 8589934593 - (intOf (a.tmps.getD 5 undef)).toNat) ?_ ?_
  · exact ⟨hrh, 0, Nat.zero_le _, h5, rfl⟩
  · clear hrh h5 hn0 hl0'
    rintro ⟨tm, df⟩ w1 ⟨⟨rfl, hs, e0, e1⟩, i, hi, e5, rfl⟩
    simp only at hs e0 e1 e5
    obtain ⟨f, hf, hg⟩ := fr_open hs
    have g0 := hg _ _ e0
    have g1 := hg _ _ e1
    have g5 := hg _ _ e5
    simp only [List.range, List.range.loop, List.map] at hf
    rw [g0, g1, g5] at hf
    clear g0 g1 g5 hg hs e0 e1 e5
    subst hf
    obtain ⟨p, qq, r1, r2, r3, r4, r5, r6, r7, r8, r9⟩ := HR.out i hi
    rw [r1]
    have R1 := Lib.hid r1
    have R6 := Lib.hid r6
    have R7 := Lib.hid r7
    have RM := Lib.hid (show 8589934593 - (2 * p).toNat < 8589934593 - p.toNat by omega)
    have c0 := C0.out
    obtain ⟨hn0, hl0'⟩ := HN0.out
    clear r1 r6 r7 r8 r9
    by_cases hlt : i < t
    · have hd : decide (1073741824 ≤ qq) = true := by rw [r5]; exact decide_eq_true hlt
      have HI := Lib.hid hlt
      clear r5 hlt hi
      conv => arg 2; whnf
      go_wp2
      rw [R7.out]
      refine ⟨⟨⟨rfl, rfl, rfl, rfl⟩, i + 1, HI.out, by rw [R6.out]; rfl, rfl⟩, RM.out⟩
    · have hd : decide (1073741824 ≤ qq) = false := by rw [r5]; exact decide_eq_false hlt
      have hie : i = t := by omega
      subst hie
      clear r5 hlt hi
      conv => arg 2; whnf
      go_wp2
      refine HQ.out _ ?_ ?_
      · exact ⟨rfl, rfl, rfl, rfl⟩
      · rw [R1.out]; rfl

def R2Inv (v : Value) (order p : Int) (L : List Int) (n : Nat) (w : World) (a : Act) (w' : World) : Prop :=
  RH v order a ∧ a.tmps[5]? = some (.int .i64 p) ∧ ∃ i : Nat, i ≤ n ∧ a.tmps[7]? = some (.int .i64 (i : Int)) ∧ Kept Nix w w' ∧ ∃ u, a.tmps[6]? = some u ∧ w'.ownsRow w.heap.size 3 1 u i (ivs (L.take i))

set_option maxRecDepth 10000 in
set_option maxHeartbeats 4000000 in
theorem rsol_l2 (v : Value) (order : Int) (zs : List Int) (a : Act) (w : World) (Q : Exit → Act → World → Prop) (hrh : RH v order a) (h5 : a.tmps[5]? = some (.int .i64 ((2 : Int) ^ lowBy zs))) (h6 : a.tmps[6]? = some (.slice none 0 0)) (h7 : a.tmps[7]? = some (.int .i64 0)) (hs : Sl w v (ivs zs)) (hlen : zs.length ≤ 40)
    (hbd : ∀ i, i < zs.length → -4611686018427387904 ≤ zs.getD i 0 ∧ zs.getD i 0 ≤ 4611686018427387904)
    (hQ : ∀ a' w' u, RH v order a' → a'.tmps[6]? = some u → w'.ownsRow w.heap.size 3 1 u zs.length (ivs (low zs)) → Kept Nix w w' → Q (.exit 2) a' w') : Code.wp Try.prog rsolL2 Q a w := by
  obtain ⟨ao, ac, rfl, -, -⟩ := hs.ints
  have SX := Lib.hid hs
  have HB := Lib.hid hbd
  have HQ := Lib.hid hQ
  have HLN := Lib.hid hlen
  have HP := Lib.hid (pow_pos2 (lowBy zs))
  have HLL := Lib.hid (low_length zs)
  have HG := Lib.hid (low_get zs)
  have HN0 := Lib.hid (World.ownsRow_nil w w.heap.size 3 1)
  clear hs hbd hQ hlen
  generalize low zs = L at *
  generalize (2 : Int) ^ lowBy zs = p at *
  generalize hn : zs.length = n at *
  have HN := Lib.hid hn
  clear hn
  refine wp_loop (R2Inv (.slice ao n ac) order p L n w) (fun a _ => n - (intOf (a.tmps.getD 7 undef)).toNat) ?_ ?_
  · exact ⟨hrh, h5, 0, Nat.zero_le _, h7, Kept.refl _ _, _, h6, HN0.out⟩
  · clear hrh h5 h6 h7 HN0
    rintro ⟨tm, df⟩ w1 ⟨⟨rfl, hs, e0, e1⟩, e5, i, hi, e7, hk, u, e6, ho⟩
    simp only at hs e0 e1 e5 e7 e6
    obtain ⟨f, hf, hg⟩ := fr_open hs
    have g0 := hg _ _ e0
    have g1 := hg _ _ e1
    have g5 := hg _ _ e5
    have g7 := hg _ _ e7
    have g6 := hg _ _ e6
    simp only [List.range, List.range.loop, List.map] at hf
    rw [g0, g1, g5, g7, g6] at hf
    clear g0 g1 g5 g7 g6 hg hs e0 e1 e5 e7 e6
    subst hf
    have HK := Lib.hid hk
    have HO := Lib.hid ho
    clear hk ho
    by_cases hlt : i < n
    · obtain ⟨b1, o1, rfl, hc1⟩ := cell_kept SX.out i (by rw [HN.out]; exact hlt)
      have c1 := hc1 w1 HK.out
      have i1 : (i : Int) < (n : Int) := by omega
      have hd : decide (i < n) = true := decide_eq_true hlt
      have hwr : wrap64 ((i : Int) + 1) = ((i + 1 : Nat) : Int) := by have := HLN.out; unfold wrap64; omega
      have HWR := Lib.hid hwr
      have hb := HB.out i hlt
      have DN := Lib.hid (fun w => down_by (zs.getD i 0) p HP.out (by omega) w)
      have HT := Lib.hid (show L.take (i + 1) = L.take i ++ [zs.getD i 0 / p] by rw [take_more L i (by rw [HLL.out]; exact hlt), HG.out i])
      have B1 := Lib.hid (show i + 1 ≤ maxLen by have := HLN.out; simp only [maxLen]; omega)
      have B2 := Lib.hid (show (i + 1) * 8 ≤ 140737488355328 by have := HLN.out; omega)
      have HI := Lib.hid hlt
      clear hlt hi hc1 hwr hb
      generalize zs.getD i 0 = z at *
      generalize z / p = d at *
      have O4 := Lib.hid (show (w1.alloc (.cells #[.int .i64 d] 3)).ownsRow w.heap.size 3 1 u i (ivs (L.take i)) from HO.out.alloc _)
      have HBS := Lib.hid (show w.heap.size ≤ (w1.alloc (.cells #[.int .i64 d] 3)).heap.size by have := HK.out.size; simp; omega)
      conv => arg 2; whnf
      go_wp2_with (first
        | (go_at_call 21; refine (DN.out _).mono ?_; rintro e w2 ⟨rfl, rfl⟩)
        | (refine wpList_app _ rfl _ _ 22 rfl w.heap.size 3 (.int .i64 0) 1 8 Try.underlying22 info_int rfl (by decide) u _ _ rfl O4.out _ 1 1 [.int .i64 d] rfl (src_one _ _ _ rfl) B1.out B2.out HBS.out ?_; intro v6 w6 o6 g6 n6; have K6 := Lib.hid (show Kept Nix w w6 from (HK.out.alloc _).grown g6 (fun kk hkk => .inr (O4.out.lt kk hkk).1)); have O6 := Lib.hid o6; clear o6 g6 n6))
      rw [HWR.out]
      refine ⟨⟨⟨rfl, rfl, rfl, rfl⟩, rfl, i + 1, HI.out, rfl, K6.out, v6, rfl, ?_⟩, nearer HI.out rfl⟩
      rw [HT.out, ivs_append]
      exact O6.out
    · have hie : i = n := by omega
      subst hie
      have hd : decide (i < i) = false := decide_eq_false (by omega)
      have h := HO.out
      rw [List.take_of_length_le (Nat.le_of_eq HLL.out)] at h
      have HH := Lib.hid h
      clear hlt hi h
      conv => arg 2; whnf
      go_wp2
      refine HQ.out _ _ _ ?_ ?_ HH.out HK.out
      · exact ⟨rfl, rfl, rfl, rfl⟩
      · rfl

end Go.Proofs.Ytdifaaimjiflgaa
