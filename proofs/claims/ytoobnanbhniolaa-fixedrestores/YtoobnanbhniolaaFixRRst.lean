/- The reference of layer 7: Restore. -/
import Derived.Test.YtoobnanbhniolaaFixRRes
namespace Go.Proofs.Ytoobnanbhniolaa
open Go.RowKit Bx

theorem snocRec {P : List Int → Prop} (l : List Int) (nil : P []) (snoc : ∀ l x, P l → P (l ++ [x])) : P l := by
  have h : ∀ n (l : List Int), l.length = n → P l := by
    intro n
    induction n with
    | zero => intro l hl; rw [List.eq_nil_of_length_eq_zero hl]; exact nil
    | succ n ih =>
      intro l hl
      obtain ⟨i, x, rfl⟩ := snoc_of_pos l (by omega)
      exact snoc i x (ih i (by simpa using hl))
  exact h _ l rfl

/-- Number by number, each of B and what is foretold by those ahead of it. -/
def rst (k : Nat) (A B : List Int) : List Int := B.foldl (fun out r => out ++ [r + ts (fac k) out out.length k]) A

theorem rst_nil (k : Nat) (A : List Int) : rst k A [] = A := rfl
theorem rst_snoc (k : Nat) (A B : List Int) (b : Int) : rst k A (B ++ [b]) = rst k A B ++ [b + ts (fac k) (rst k A B) (rst k A B).length k] := by simp [rst, List.foldl_append]

theorem rst_length (k : Nat) (A B : List Int) : (rst k A B).length = A.length + B.length := by
  refine snocRec (P := fun B => (rst k A B).length = A.length + B.length) B ?_ ?_
  · rfl
  · intro B b ih
    rw [rst_snoc, List.length_append, ih]; simp; omega

theorem ts_congr (F x y : List Int) (n : Nat) (h : ∀ p, p < n → x.getD p 0 = y.getD p 0) : ∀ j, j ≤ n → ts F x n j = ts F y n j := by
  intro j
  induction j with
  | zero => intro _; rfl
  | succ j ih =>
    intro hj
    rw [ts, ts, ih (by omega), h (n - 1 - j) (by omega)]

theorem rst_back (k : Nat) (hk : k ≤ 4) (A B : List Int) (hA : A.length = k) : dn k (rst k A B) = B ∧ (rst k A B).take k = A := by
  refine snocRec (P := fun B => dn k (rst k A B) = B ∧ (rst k A B).take k = A) B ?_ ?_
  · rw [rst_nil]
    refine ⟨List.eq_nil_of_length_eq_zero (by rw [dn_length]; omega), List.take_of_length_le (by omega)⟩
  · rintro B b ⟨ih1, ih2⟩
    have hn := rst_length k A B
    rw [rst_snoc]
    generalize hx : rst k A B = x at *
    have hxn : x.length = k + B.length := by omega
    have hkn : k ≤ x.length := by omega
    refine ⟨?_, ?_⟩
    · have h1 : (x ++ [b + ts (fac k) x x.length k]).take x.length = x := by simp
      have h2 := dn_take k x.length (x ++ [b + ts (fac k) x x.length k])
      rw [h1, ih1] at h2
      have hl : (x ++ [b + ts (fac k) x x.length k]).length = x.length + 1 := by simp
      have h3 := told_left k hk (x ++ [b + ts (fac k) x x.length k]) x.length hkn (by omega)
      have h4 : ts (fac k) (x ++ [b + ts (fac k) x x.length k]) x.length k = ts (fac k) x x.length k := ts_congr _ _ _ _ (fun p hp => by simp [List.getD, List.getElem?_append_left hp]) k hkn
      have h5 : (x ++ [b + ts (fac k) x x.length k]).getD x.length 0 = b + ts (fac k) x x.length k := by simp [List.getD]
      rw [h4, h5] at h3
      have hdl := dn_length k (x ++ [b + ts (fac k) x x.length k])
      generalize dn k (x ++ [b + ts (fac k) x x.length k]) = D at *
      have h6 : x.length - k < D.length := by omega
      have h7 : D = D.take (x.length - k + 1) := (List.take_of_length_le (by omega)).symm
      rw [h7, List.take_succ_eq_append_getElem h6, ← h2]
      have h8 : D[x.length - k] = D.getD (x.length - k) 0 := by simp [List.getD, h6]
      rw [h8, ← h3]
      congr 2
      omega
    · rw [List.take_append_of_le_length hkn]
      exact ih2

theorem rst_step (k : Nat) (A B : List Int) (i : Nat) (hA : A.length = k) (hi : i < B.length) : rst k A (B.take (i + 1)) = rst k A (B.take i) ++ [B.getD i 0 + ts (fac k) (rst k A (B.take i)) (k + i) k] := by
  rw [List.take_succ_eq_append_getElem hi, rst_snoc, rst_length, List.length_take, hA, Nat.min_eq_left (by omega)]
  simp [List.getD, hi]

def RRstInv (vw vr : Value) (A B : List Int) (k : Nat) (w : World) (a : Act) (w' : World) : Prop :=
  a.defers = [] ∧ a.tmps.size = 37 ∧ a.tmps[0]? = some vw ∧ a.tmps[1]? = some vr ∧
  ∃ i : Nat, i ≤ B.length ∧ a.tmps[7]? = some (.int .i64 (i : Int)) ∧ ∃ u, a.tmps[6]? = some u ∧ w'.ownsRow w.heap.size 3 1 u (k + i) (ivs (rst k A (B.take i))) ∧ Kept Nix w w'

theorem rrst_nums (x : List Int) (k n i m : Nat) (r : Int) (hk : k ≤ 4) (hr : -1099511627776 ≤ r ∧ r ≤ 1099511627776) (hb : Bd 1099511627776 x) (hi : i < m) (hm : m < 1099511627776) :
    IntKind.i64.wrap (r + ts (fac k) x n k) = r + ts (fac k) x n k ∧ wrap64 (r + ts (fac k) x n k) = r + ts (fac k) x n k ∧ wrap64 ((i : Int) + 1) = ((i + 1 : Nat) : Int) ∧ (i : Int) < (m : Int) ∧ k + i + 1 ≤ maxLen ∧ (k + i + 1) * 8 ≤ 140737488355328 := by
  have h2 := ts_bd (fac_bd k) hb (by decide) n k hk
  refine ⟨IntWalk.i64_in _ (by omega), w64_in _ (by omega), ?_, by omega, ?_, by omega⟩
  · unfold wrap64; omega
  · simp only [maxLen]; omega

set_option maxHeartbeats 2000000 in
theorem rrst_any (vw vr : Value) (A B : List Int) (k : Nat) (w : World) (hA : Sl w vw (ivs A)) (hB : Sl w vr (ivs B)) (hAk : A.length = k) (hk : k ≤ 4) (hl : B.length < 1000000) (hb : Bd 1099511627776 B) (hp : ∀ j, j < B.length → Bd 1099511627776 (rst k A (B.take j))) :
    Calls Try.prog 16 #[vw, vr] w (RstPost (rst k A B) w) := by
  obtain ⟨ao, cap, rfl, _⟩ := hA.ints
  obtain ⟨bo, cap2, rfl, _⟩ := hB.ints
  have hsrc := (src_ivs hA).1.alloc (.cells #[] 3)
  have hown := World.ownsRow_made (base := w.heap.size) (e := 3) (size := 1) w #[] 0 (Nat.le_refl _) (by simp [maxLen]) (by simp)
  have hd : decide ((4 : Int) < (A.length : Int)) = false := decide_eq_false (by omega)
  have HSRC := Lib.hid hsrc
  have HOWN := Lib.hid hown
  have HB1 := Lib.hid (show 0 + A.length ≤ maxLen by simp only [maxLen]; omega)
  have HB2 := Lib.hid (show (0 + A.length) * 8 ≤ 140737488355328 by omega)
  have HAK := Lib.hid hAk
  have HK := Lib.hid hk
  have HL := Lib.hid hl
  have HB := Lib.hid hb
  have HP := Lib.hid hp
  have HSB := Lib.hid hB
  clear hA hB hAk hk hl hb hp hsrc hown
  go_enter Try.func16, Try.ntmps16
  go_wp2_with (refine wpList_app _ rfl _ _ 22 rfl w.heap.size 3 (.int .i64 0) 1 8 Try.underlying22 info_int rfl (by decide) (.slice (some ⟨w.heap.size, 0, none⟩) 0 0) 0 [] rfl HOWN.out ao _ cap _ rfl HSRC.out HB1.out HB2.out (by simp) ?_
               intro v6 w6 o6 g6 n6; have O6 := Lib.hid o6; have G6 := Lib.hid (kept_new g6); clear o6 g6 n6)
  clear hd
  have hAk := HAK.out
  rw [hAk]
  refine wp_loop (RRstInv (.slice ao k cap) (.slice bo B.length cap2) A B k w) (fun a _ => B.length - (intOf (a.tmps.getD 7 undef)).toNat) ?_ ?_
  · refine ⟨rfl, rfl, rfl, rfl, 0, Nat.zero_le _, rfl, v6, rfl, ?_, G6.out⟩
    have h := O6.out
    rw [hAk] at h
    simpa [rst_nil] using h
  · clear hAk O6 G6 HSRC HOWN
    rintro ⟨tm, df⟩ w1 ⟨rfl, hs, h0, h1, i, hi, h7, u, h6, hou, hkp⟩
    simp only at hs h0 h1 h7 h6
    obtain ⟨f, hf, hg⟩ := fr_open hs
    have e0 := hg _ _ h0
    have e1 := hg _ _ h1
    have e7 := hg _ _ h7
    have e6 := hg _ _ h6
    simp only [List.range, List.range.loop, List.map] at hf
    rw [e0, e1, e7, e6] at hf
    clear e0 e1 e7 e6 hg hs h0 h1 h7 h6
    subst hf
    have HKP := Lib.hid hkp
    have HOU := Lib.hid hou
    by_cases hlt : i < B.length
    · have hdd : decide (i < B.length) = true := decide_eq_true hlt
      obtain ⟨b, off, rfl, hbw, hcx⟩ : ∃ b off, bo = some ⟨b, off, none⟩ ∧ b < w.heap.size ∧ ∀ j, j < B.length → w.cell? ⟨b, off + j, none⟩ = some (.int .i64 (B.getD j 0)) := by
        obtain ⟨ao', cap', e, _, _, hp⟩ := HSB.out.ints
        simp only [Value.slice.injEq] at e
        obtain ⟨rfl, _, _⟩ := e
        exact hp (by omega)
      have hc0 := hcx i hlt
      have CL := Lib.hid (show ∀ w', Kept Nix w w' → w'.cell? ⟨b, off + i, none⟩ = some (.int .i64 (B.getD i 0)) from fun w' hk' => (World.cell?_of_block (hk'.block _ hbw id)).trans hc0)
      have hxl : (rst k A (B.take i)).length = k + i := by rw [rst_length, HAK.out, List.length_take, Nat.min_eq_left hi]
      obtain ⟨uo, ucap, rfl, _, _⟩ := owns_shape hou
      have TD := Lib.hid (told_any (.slice uo (k + i) ucap) (rst k A (B.take i)) (k + i) k w1.drew (sl_of_owns (w := w1.drew) hou) HK.out (by omega) (by omega) (by have := HL.out; have := HK.out; omega) (HP.out i hlt))
      have hlb : B.length < 1099511627776 := by have := HL.out; omega
      obtain ⟨n1, n2, n3, n4, n5, n6⟩ := rrst_nums (rst k A (B.take i)) k (k + i) i B.length (B.getD i 0) HK.out (HB.out i hlt) (HP.out i hlt) hlt hlb
      have N3 := Lib.hid n3
      have N5 := Lib.hid n5
      have N6 := Lib.hid n6
      have NS := Lib.hid (rst_step k A B i HAK.out hlt)
      have HI := Lib.hid hlt
      have hc1 := CL.out w1 hkp
      clear hc0 hcx hbw n3 n5 n6 hlt hi hkp hou hxl hlb
      generalize B.getD i 0 = bi at *
      generalize rst k A (B.take i) = x at *
      generalize ts (fac k) x (k + i) k = tk at *
      generalize hki : k + i = ki at *
      have HKI := Lib.hid hki
      clear hki
      go_wp2_with fail
      go_region_held3 (fun w' => w'.cell? ⟨b, off + i, none⟩ = some (.int .i64 bi))
        (first | go_keep | (exact HQ5.out))
        (first
          | (go_at_call 20; refine TD.out.mono ?_; rintro e w5 ⟨rfl, k5⟩; have hk5 : Kept Nix w w5 := nix_trans HKP.out.drew k5; have HQ5 := Lib.hid (CL.out _ hk5); have K5 := Lib.hid hk5; have O5 := Lib.hid ((k5.owns (w := w1.drew) HOU.out (fun _ _ h => h)).alloc (.cells #[.int .i64 (bi + tk)] 3)); clear k5 hk5))
      all_goals
        go_wp2_with (refine wpList_app _ rfl _ _ 22 rfl w.heap.size 3 (.int .i64 0) 1 8 Try.underlying22 info_int rfl (by decide) _ _ _ rfl O5.out _ 1 1 [.int .i64 (bi + tk)] rfl (src_one w5 _ _ rfl) N5.out N6.out (by have := K5.out.size; simp; omega) ?_
                     intro v6 w6 o6 g6 n6; have k6 : Kept Nix w w6 := (K5.out.alloc _).grown g6 (fun kk hkk => .inr (O5.out.lt kk hkk).1); have K6 := Lib.hid k6; have O6 := Lib.hid o6; clear k6 o6 g6 n6)
        rw [N3.out]
        refine ⟨⟨rfl, rfl, rfl, rfl, i + 1, HI.out, rfl, v6, rfl, ?_, K6.out⟩, nearer HI.out rfl⟩
        rw [NS.out, ivs_append, ← Nat.add_assoc, HKI.out]
        exact O6.out
    · have hdd : decide (i < B.length) = false := decide_eq_false hlt
      have hie : i = B.length := by omega
      subst hie
      have h := HOU.out
      rw [List.take_length] at h
      have hxl : (rst k A B).length = k + B.length := by rw [rst_length, HAK.out]
      rw [← hxl] at h
      have HH := Lib.hid h
      clear hlt hi hkp hou h hxl
      go_wp2
      go_ret2
      exact rst_post HH.out HKP.out

set_option maxHeartbeats 1000000 in
theorem rrst_bad (vw vr : Value) (A : List Int) (w : World) (hw : Sl w vw (ivs A)) (h : 4 < A.length) :
    Calls Try.prog 16 #[vw, vr] w fun e w' => e = .returned (.tuple #[.slice none 0 0, .int .i64 1]) ∧ w' = w := by
  obtain ⟨ao, cap, rfl, _⟩ := hw.ints
  have hd : decide ((4 : Int) < (A.length : Int)) = true := decide_eq_true (by omega)
  clear hw h
  generalize A.length = n at *
  go_enter Try.func16, Try.ntmps16
  go_wp2
  go_ret2
  exact ⟨rfl, rfl⟩

end Go.Proofs.Ytoobnanbhniolaa
