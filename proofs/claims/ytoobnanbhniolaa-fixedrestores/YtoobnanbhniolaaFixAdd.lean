/- Package fixed: addUp, Restore. -/
import Derived.Test.YtoobnanbhniolaaFixResid
namespace Go.Proofs.Ytoobnanbhniolaa
open Go.RowKit Bx

theorem getD_drop (x : List Int) (p i : Nat) : (x.drop p).getD i 0 = x.getD (p + i) 0 := by simp [List.getD]

theorem dl_drop (x : List Int) (p : Nat) : dl (x.drop p) = (dl x).drop p := by
  apply getD_ext
  · simp only [dl_length, List.length_drop]; omega
  · intro i hi
    simp only [dl_length, List.length_drop] at hi
    rw [dl_get _ i (by simp; omega), getD_drop, getD_drop, getD_drop, dl_get x (p + i) (by omega), Nat.add_assoc]

/-- The sums laid over the differences, so many of them, behind A. -/
def su (A y : List Int) (i : Nat) : List Int := A ++ ((y.drop 1).take i ++ (dl y).drop i)

theorem su_zero (A y : List Int) : su A y 0 = A ++ dl y := by simp [su]
theorem su_last (A y : List Int) (m : Nat) (h : y.length = m + 1) : su A y m = A ++ y.drop 1 := by
  have h1 : (dl y).length = m := by rw [dl_length]; omega
  have h2 : (y.drop 1).length = m := by simp; omega
  simp only [su]
  rw [show (y.drop 1).take m = y.drop 1 from List.take_of_length_le (by omega), show (dl y).drop m = [] from List.drop_eq_nil_of_le (by omega), List.append_nil]
theorem su_length (A y : List Int) (i m : Nat) (h : y.length = m + 1) (hi : i ≤ m) : (su A y i).length = A.length + m := by
  simp only [su, List.length_append, List.length_take, List.length_drop, dl_length]
  omega
theorem su_get (A y : List Int) (i m : Nat) (h : y.length = m + 1) (hi : i < m) : (su A y i).getD (A.length + i) 0 = (dl y).getD i 0 := by
  have hl : ((y.drop 1).take i).length = i := by simp; omega
  simp only [su, List.getD_eq_getElem?_getD]
  rw [List.getElem?_append_right (by omega), Nat.add_sub_cancel_left, List.getElem?_append_right (by omega), hl, Nat.sub_self, List.getElem?_drop, Nat.add_zero]
theorem su_set (A y : List Int) (i m : Nat) (h : y.length = m + 1) (hi : i < m) : (su A y i).set (A.length + i) (y.getD (i + 1) 0) = su A y (i + 1) := by
  have hl : ((y.drop 1).take i).length = i := by simp; omega
  have h1 : i < (y.drop 1).length := by simp; omega
  have h2 : i < (dl y).length := by rw [dl_length]; omega
  simp only [su]
  rw [List.set_append_right _ _ (by omega), Nat.add_sub_cancel_left, List.set_append_right _ _ (by omega), hl, Nat.sub_self, List.take_succ_eq_append_getElem h1, List.append_assoc]
  congr 2
  rw [List.drop_eq_getElem_cons h2]
  have e : y.getD (i + 1) 0 = (y.drop 1)[i] := by
    rw [List.getElem_drop, List.getD_eq_getElem?_getD, List.getElem?_eq_getElem (by omega), Option.getD_some]
    congr 1
    omega
  rw [e, List.set_cons_zero, List.singleton_append]

def AddInv (base g cap : Nat) (A y : List Int) (m : Nat) (v : Value) (w : World) (a : Act) (w' : World) : Prop :=
  a.defers = [] ∧ a.tmps.size = 23 ∧ a.tmps[1]? = some v ∧ a.tmps[8]? = some v ∧ a.tmps[9]? = some (.int .i64 (m : Int)) ∧
  ∃ i : Nat, i ≤ m ∧ a.tmps[10]? = some (.int .i64 (i : Int)) ∧ a.tmps[4]? = some (.int .i64 (y.getD i 0)) ∧ w'.ownsRow base 3 1 (.slice (some ⟨g, 0, none⟩) (A.length + m) cap) (A.length + m) (ivs (su A y i)) ∧ Kept (One g) w w'

theorem add_nums (y : List Int) (i m n cap : Nat) (h : y.length = m + 1) (hi : i < m) (hb : Bd 4611686018427387903 y) (hn : m ≤ n) (hc : n ≤ cap) (hm : cap ≤ maxLen) :
    wrap64 (y.getD i 0 + (dl y).getD i 0) = y.getD (i + 1) 0 ∧ wrap64 ((i : Int) + 1) = ((i + 1 : Nat) : Int) ∧ decide ((i : Int) < (m : Int)) = true ∧ (i : Int) < (m : Int) := by
  simp only [maxLen] at hm
  have h1 := hb.any (by decide) (i + 1)
  rw [dl_get y i (by omega)]
  refine ⟨?_, ?_, decide_eq_true (by omega), by omega⟩
  · rw [show y.getD i 0 + (y.getD (i + 1) 0 - y.getD i 0) = y.getD (i + 1) 0 by omega]
    exact w64_in _ (by omega)
  · unfold wrap64; omega

set_option maxHeartbeats 1000000 in
theorem add_any (base g cap m : Nat) (A y : List Int) (ao : Option Addr) (c : Nat) (w : World) (hy : y.length = m + 1) (hao : 0 < m → ao = some ⟨g, A.length, none⟩) (hb : Bd 4611686018427387903 y)
    (ho : w.ownsRow base 3 1 (.slice (some ⟨g, 0, none⟩) (A.length + m) cap) (A.length + m) (ivs (A ++ dl y))) :
    Calls Try.prog 22 #[.int .i64 (y.getD 0 0), .slice ao m c] w fun e w' => e = .returned (.tuple #[]) ∧ w'.ownsRow base 3 1 (.slice (some ⟨g, 0, none⟩) (A.length + m) cap) (A.length + m) (ivs (A ++ y.drop 1)) ∧ Kept (One g) w w' := by
  obtain ⟨hc1, hc2⟩ := owns_cap ho
  have HO := Lib.hid ho
  have HY := Lib.hid hy
  have HA := Lib.hid hao
  have HB := Lib.hid hb
  have HC1 := Lib.hid hc1
  have HC2 := Lib.hid hc2
  clear ho hy hao hb hc1 hc2
  generalize hk : A.length = k at *
  have HKL := Lib.hid hk
  clear hk
  go_enter Try.func22, Try.ntmps22
  go_wp2
  refine wp_loop (AddInv base g cap A y m (.slice ao m c) w) (fun a _ => m - (intOf (a.tmps.getD 10 undef)).toNat) ?_ ?_
  · exact ⟨rfl, rfl, rfl, rfl, rfl, 0, Nat.zero_le _, rfl, rfl, by rw [su_zero, HKL.out]; exact HO.out, Kept.refl _ _⟩
  · rintro ⟨tm, df⟩ w1 ⟨rfl, hs, h1, h8, h9, i, hi, h10, h4, ho, hk⟩
    simp only at hs h1 h8 h9 h10 h4
    obtain ⟨f, hf, hg⟩ := fr_open hs
    have e1 := hg _ _ h1
    have e8 := hg _ _ h8
    have e9 := hg _ _ h9
    have e10 := hg _ _ h10
    have e4 := hg _ _ h4
    simp only [List.range, List.range.loop, List.map] at hf
    rw [e1, e8, e9, e10, e4] at hf
    clear e1 e8 e9 e10 e4 hg hs h1 h8 h9 h10 h4
    subst hf
    have HK := Lib.hid hk
    have HO1 := Lib.hid ho
    clear hk
    by_cases hlt : i < m
    · obtain rfl := HA.out (by omega)
      rw [HKL.out] at ho
      obtain ⟨w1', w2', hd, hi1⟩ := add_nums y i m (k + m) cap HY.out hlt HB.out (by omega) HC1.out HC2.out
      have c1 : w1.cell? ⟨g, k + i, none⟩ = some (.int .i64 ((dl y).getD i 0)) := by
        rw [ho.cellAt (k + i) (by omega), ivs_get _ _ (by rw [su_length A y i m HY.out hi, HKL.out]; omega), ← HKL.out, su_get A y i m HY.out hlt]
      have hz : w1.frozen? ⟨g, k + i, none⟩ = false := ho.frozenAt (k + i)
      have hst := su_set A y i m HY.out hlt
      rw [HKL.out] at hst
      have HST := Lib.hid hst
      have HI := Lib.hid hlt
      have HG := Lib.hid (show y.getD (i + 1) 0 = y.getD (i + 1) 0 from rfl)
      clear hst ho hlt hi
      generalize y.getD i 0 = x at *
      generalize (dl y).getD i 0 = d at *
      generalize hi' : i + 1 = i' at *
      have HI' := Lib.hid hi'
      clear hi'
      generalize hx' : y.getD i' 0 = x' at *
      have HX' := Lib.hid hx'
      clear hx' HG
      go_wp2
      refine ⟨⟨rfl, rfl, rfl, rfl, rfl, i', ?_, rfl, ?_, ?_, HK.out.setCell (.inl (show One g g from rfl)) _⟩, ?_⟩
      · rw [← HI'.out]; exact HI.out
      · rw [HX'.out]; rfl
      · rw [← HST.out, ← ivs_set]
        have h := HO1.out
        rw [HKL.out] at h ⊢
        exact (h.stored (k + i) _).1
      · exact nearer HI.out HI'.out
    · have hd : decide ((i : Int) < (m : Int)) = false := decide_eq_false (by omega)
      have him : i = m := by omega
      subst him
      clear hi hlt ho
      go_wp2
      refine bodyPost_end (v := .tuple #[]) (by simp [results, Try.results22]) rfl ⟨rfl, ?_, HK.out⟩
      have h := HO1.out
      rw [su_last A y i HY.out, HKL.out] at h
      exact h

theorem elem_ints : Try.prog.elem 22 = 3 := by kernel_rfl

theorem size_int (w : World) : (sizeOf 3).run Try.prog w = .ok 1 w := by
  obtain ⟨i, hi, hz, hsize, hby⟩ := info_parts info_int
  simp [sizeOf, typeInfo, hi, hsize]

/-- A slice of integers from k on. -/
theorem run_from_i (w : World) (ao : Option Addr) (len cap k : Nat) (h : k ≤ len) : (Instr.slice 22 (.slice ao len cap) (some (.int .i64 (k : Int))) none none).run Try.prog w = .ok (.slice (if cap = k then ao else ao.map (fun x => x.add k)) (len - k) (cap - k)) w := by
  have ht : Try.prog.underlying 22 = some (.slice (Try.prog.elem 22)) := by rw [elem_ints]; exact Try.underlying22
  rw [run_slice_l w 22 ao len cap ht .i64 (k : Int) (by omega) (by omega), elem_ints, size_int]
  simp [sliced]

theorem run_from_i_at (w : World) (ao : Option Addr) (len cap k : Nat) (h : k ≤ len) : (Instr.sliceAt 22 (.slice ao len cap) (some (.int .i64 (k : Int))) none none).run Try.prog w = .ok (.slice (if cap = k then ao else ao.map (fun x => x.add k)) (len - k) (cap - k)) w := by
  have ht : Try.prog.underlying 22 = some (.slice (Try.prog.elem 22)) := by rw [elem_ints]; exact Try.underlying22
  rw [run_sliceAt_slice w 22 _ _ _ _ ht, run_from_i w ao len cap k h]

/-- Two slices of integers in a row. -/
theorem chs_two (w : World) (u v : Value) (A B : List Int) (hu : Sl w u (ivs A)) (hv : Sl w v (ivs B)) (t : TypeId) : Chs (w.alloc (.cells #[u, v] t)) (.slice (some ⟨w.heap.size, 0, none⟩) 2 2) [A, B] := by
  refine ⟨[u, v], sl_alloc w [u, v] t 2 rfl (by simp [maxLen]), rfl, fun i hi => ?_⟩
  have k : Kept Nix w (w.alloc (.cells #[u, v] t)) := (Kept.refl _ w).alloc _
  match i, hi with
  | 0, _ => exact ⟨u, rfl, hu.nix k⟩
  | 1, _ => exact ⟨v, rfl, hv.nix k⟩

/-- What the label of Restore has: the first ones, and behind them what the order leaves. -/
def rsRow (x : List Int) (k j : Nat) : List Int := x.take k ++ (dn j x).drop (k - j)

theorem rsRow_top (x : List Int) (k : Nat) : rsRow x k k = x.take k ++ dn k x := by simp [rsRow]
theorem rsRow_zero (x : List Int) (k : Nat) : rsRow x k 0 = x := by simp [rsRow, dn]
theorem rsRow_from (x : List Int) (k j : Nat) (_ : j + 1 ≤ k) : rsRow x k (j + 1) = x.take k ++ dl ((dn j x).drop (k - (j + 1))) := by rw [rsRow, dn, dl_drop]
theorem rsRow_to (x : List Int) (k j : Nat) (h : j + 1 ≤ k) : rsRow x k j = x.take k ++ ((dn j x).drop (k - (j + 1))).drop 1 := by rw [rsRow, List.drop_drop, show k - (j + 1) + 1 = k - j by omega]
theorem rsRow_length (x : List Int) (k j : Nat) (hk : k ≤ x.length) (h : j ≤ k) : (rsRow x k j).length = x.length := by
  simp only [rsRow, List.length_append, List.length_take, List.length_drop, dn_length]
  omega

def RstInv (k : Nat) (x : List Int) (vw vx vb : Value) (w : World) (a : Act) (w' : World) : Prop :=
  a.defers = [] ∧ a.tmps.size = 41 ∧ a.tmps[0]? = some vw ∧ a.tmps[7]? = some vx ∧ a.tmps[8]? = some vb ∧
  ∃ j : Nat, j ≤ k ∧ a.tmps[6]? = some (.int .i64 (j : Int)) ∧ w'.ownsRow w.heap.size 3 1 vx x.length (ivs (rsRow x k j)) ∧ Kept Nix w w'

def rstMeasure (a : Act) : Nat := (intOf (a.tmps.getD 6 undef)).toNat

noncomputable def rstRest : Code := behindLabel (Try.f17.body.getD .skip) 0

def RstPost (x : List Int) (w : World) (e : Ending) (w' : World) : Prop :=
  ∃ u, e = .returned (.tuple #[u, .int .i64 0]) ∧ w'.ownsRow w.heap.size 3 1 u x.length (ivs x) ∧ Kept Nix w w'

theorem rst_post {x : List Int} {w w' : World} {u : Value} (h : w'.ownsRow w.heap.size 3 1 u x.length (ivs x)) (k : Kept Nix w w') : RstPost x w (.returned (.tuple #[u, .int .i64 0])) w' := ⟨u, rfl, h, k⟩

theorem rst_nums (k j r : Nat) (h : j + 1 ≤ k) (h4 : k ≤ 4) (hr : r = k - (j + 1)) : (((j + 1 : Nat) : Int) == 0) = false ∧ wrap64 (((j + 1 : Nat) : Int) - 1) = (j : Int) ∧ wrap64 (((r + 1 : Nat) : Int) - 1) = (r : Int) ∧ (r : Int) < ((r + 1 : Nat) : Int) := by
  refine ⟨by simp; omega, ?_, ?_, by omega⟩ <;> (unfold wrap64; omega)

theorem last_of (x : List Int) (k j : Nat) (h : j + 1 ≤ k) (_ : k ≤ x.length) : (dn j (x.take k)).getD (k - (j + 1)) 0 = ((dn j x).drop (k - (j + 1))).getD 0 0 := by
  rw [dn_take, getD_drop, Nat.add_zero]
  simp [List.getD, show k - (j + 1) < k - j by omega]

set_option maxHeartbeats 1000000 in
theorem rst_pass (k m : Nat) (x : List Int) (vw vx : Value) (ao : Option Addr) (c : Nat) (w : World) (hk : k ≤ 4) (hkl : k ≤ x.length) (hm : m = x.length - k) (hl : x.length < 1099511627776) (hb : Bd 1099511627776 x) (hw : Sl w vw (ivs (x.take k)))
    (hv : ∀ g cap, vx = .slice (some ⟨g, 0, none⟩) x.length cap → 0 < m → ao = some ⟨g, k, none⟩)
    (a : Act) (w' : World) (hi : RstInv k x vw vx (.slice ao m c) w a w') :
    rstRest.wp Try.prog (Exit.jump 0 (fun a' w'' => RstInv k x vw vx (.slice ao m c) w a' w'' ∧ rstMeasure a' < rstMeasure a) (bodyPost Try.prog Try.f17 (RstPost x w))) a w' := by
  obtain ⟨tm, df⟩ := a
  obtain ⟨rfl, hs, h0, h7, h8, j, hj, h6, ho, hkp⟩ := hi
  simp only at hs h0 h7 h8 h6
  obtain ⟨f, hf, hg⟩ := fr_open hs
  have e0 := hg _ _ h0
  have e7 := hg _ _ h7
  have e8 := hg _ _ h8
  have e6 := hg _ _ h6
  simp only [List.range, List.range.loop, List.map] at hf
  rw [e0, e7, e8, e6] at hf
  clear e0 e7 e8 e6 hg hs h0 h7 h8 h6
  subst hf
  have HO := Lib.hid ho
  have HK := Lib.hid hkp
  have HB := Lib.hid hb
  have HW := Lib.hid hw
  have HV := Lib.hid hv
  have HKK := Lib.hid hk
  have HKL := Lib.hid hkl
  have HJ := Lib.hid hj
  have HL := Lib.hid hl
  have HMM := Lib.hid hm
  clear ho hkp hb hw hv hl hm
  conv => arg 2; whnf
  by_cases hr : j = 0
  · subst hr
    clear hk hkl hj
    have hh := HO.out
    rw [rsRow_zero] at hh
    have HH := Lib.hid hh
    clear hh
    go_wp2
    simp only [Exit.jump]
    go_ret2
    exact rst_post HH.out HK.out
  · obtain ⟨j, rfl⟩ : ∃ i, j = i + 1 := ⟨j - 1, by omega⟩
    obtain ⟨g, cap, rfl, _, _, hgb, _⟩ := owns_pos HO.out (by omega)
    obtain ⟨r, hr⟩ : ∃ r, r = k - (j + 1) := ⟨_, rfl⟩
    obtain ⟨t1, t2, t3, t4⟩ := rst_nums k j r hj hk hr
    have hlt : (x.take k).length = k := by simp; omega
    have HRES := Lib.hid (res_any vw (x.take k) (j : Int) w' (HW.out.nix HK.out) (by rw [hlt]; omega) (HB.out.take k))
    have hrl : resL (x.take k) (j : Int) = dn j (x.take k) := resL_ok (by omega) (by rw [hlt]; omega)
    have hrlen : (dn j (x.take k)).length = r + 1 := by rw [dn_length, hlt]; omega
    have hre : resE (x.take k).length (j : Int) = 0 := resE_ok (by omega) (by rw [hlt]; omega)
    have HRL := Lib.hid hrl
    have HRN := Lib.hid hrlen
    have HRE := Lib.hid hre
    have HGB := Lib.hid hgb
    have HRR := Lib.hid hr
    have HJJ := Lib.hid (show ((j + 1 : Nat) : Int) = ((j + 1 : Nat) : Int) from rfl)
    generalize hj' : j + 1 = j' at *
    have HJ' := Lib.hid hj'
    clear hj' HJJ hr hj hk hkl hlt hrl hrlen hre hgb
    go_upto_region 10 with (go_at_call 11; refine HRES.out.mono ?_; rintro e w2 ⟨u2, rfl, ho2, hk2⟩; rw [HRE.out]; rw [HRL.out, HRN.out] at ho2; have HO2 := Lib.hid ho2; have HK2 := Lib.hid hk2; clear ho2 hk2 HRES)
    obtain ⟨g2, cap2, rfl, _, _, _, _⟩ := owns_pos HO2.out (by omega)
    have hcell : w2.cell? ⟨g2, r, none⟩ = some (.int .i64 (((dn j x).drop r).getD 0 0)) := by
      rw [HO2.out.cellAt r (by omega), ivs_get _ _ (by rw [HRN.out]; omega), HRR.out, ← HJ'.out, last_of x k j (by rw [HJ'.out]; exact HJ.out) HKL.out]
    have hm : m + k = x.length := by have := HKL.out; have := HMM.out; omega
    have hyl : ((dn j x).drop r).length = m + 1 := by have := HKL.out; have := HMM.out; have := HJ.out; have := HRR.out; have := HJ'.out; rw [List.length_drop, dn_length]; omega
    have htl : (x.take k).length = k := by have := HKL.out; simp; omega
    have hrow := HK2.out.owns HO.out (fun _ _ h => h)
    have HADD := Lib.hid (add_any w.heap.size g cap m (x.take k) ((dn j x).drop r) ao c w2 hyl (by rw [htl]; exact HV.out g cap rfl) (by
        have := (HB.out.dn (by decide) j (by have := HJ.out; have := HKK.out; have := HJ'.out; omega)).mem
        exact (bd_of_mem (fun n hn => this n (List.mem_of_mem_drop hn))).mono (by decide)) (by
        rw [htl, show k + m = x.length by omega]
        have e := rsRow_from x k j (by rw [HJ'.out]; exact HJ.out)
        rw [HJ'.out, ← HRR.out] at e
        rw [← e]
        exact hrow))
    have HTL := Lib.hid htl
    have HM := Lib.hid hm
    clear hm hyl htl hrow HRL HRE
    generalize ((dn j x).drop r).getD 0 0 = y0 at *
    generalize hr1 : r + 1 = r1 at *
    clear hr1 HRN
    go_wp2_with (go_at_call 22; refine HADD.out.mono ?_; rintro e w3 ⟨rfl, ho3, hk3⟩; have HO3 := Lib.hid ho3; have HK3 := Lib.hid hk3; clear ho3 hk3 HADD)
    refine wp_goto ⟨rfl, ⟨rfl, rfl, rfl, rfl, rfl, j, ?_, rfl, ?_, ?_⟩, ?_⟩
    · have := HJ.out; have := HJ'.out; omega
    · have h := HO3.out
      rw [HTL.out, show k + m = x.length by have := HM.out; omega] at h
      have e := rsRow_to x k j (by rw [HJ'.out]; exact HJ.out)
      rw [HJ'.out, ← HRR.out] at e
      rw [e]
      exact h
    · exact nix_put (nix_trans HK.out HK2.out) HK3.out (fun i hi => by rw [show i = g from hi]; exact HGB.out)
    · have := HJ'.out
      simp only [rstMeasure, intOf]
      simp
      omega

end Go.Proofs.Ytoobnanbhniolaa
