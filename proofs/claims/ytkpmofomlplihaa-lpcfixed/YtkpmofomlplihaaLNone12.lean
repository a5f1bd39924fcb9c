/- The walk of LpcNone. -/
import Derived.Test.YtkpmofomlplihaaAwake12
import Derived.Test.YtkpmofomlplihaaArgs
namespace Go.Proofs.Ytkpmofomlplihaa
open Go.RowKit Bx

/-- The cell of a slice's number of any kind, in any world that kept it. -/
theorem cell_kind {w : World} {ao : Option Addr} {cap : Nat} {k : IntKind} {zs : List Int} {m : Nat} (hs : Sl w (.slice ao m cap) (zs.map (Value.int k))) (i : Nat) (hi : i < zs.length) : ∃ b off, ao = some ⟨b, off, none⟩ ∧ ∀ w', Kept Nix w w' → w'.cell? ⟨b, off + i, none⟩ = some (.int k (zs.getD i 0)) := by
  obtain ⟨ao', cap', e, _, _, hp⟩ := hs.ints
  simp only [Value.slice.injEq] at e
  obtain ⟨rfl, -, -⟩ := e
  obtain ⟨b, off, e1, hb, hc⟩ := hp (by omega)
  exact ⟨b, off, e1, fun w' hk' => (World.cell?_of_block (hk'.block _ hb id)).trans (hc i hi)⟩

/-- Half of each, rounded to 0. -/
def hv (x : List Int) : List Int := x.map (fun n => n.tdiv 2)

theorem hv_length (x : List Int) : (hv x).length = x.length := by simp [hv]
theorem hv_get (x : List Int) (i : Nat) (h : i < x.length) : (hv x).getD i 0 = (x.getD i 0).tdiv 2 := by simp [hv, List.getD, h]

theorem tdiv_half (n : Int) (h : -2147483648 ≤ n ∧ n ≤ 2147483647) : -1073741824 ≤ n.tdiv 2 ∧ n.tdiv 2 ≤ 1073741824 := by
  have h1 : (n.tdiv 2).natAbs = n.natAbs / 2 := by rw [Int.natAbs_tdiv]; rfl
  omega

theorem hv_bd {x : List Int} (h : ∀ n ∈ x, (Lit.int .i32 n).wf = true) : Bd 1073741824 (hv x) := by
  apply bd_of_mem
  intro n hn
  obtain ⟨m, hm, rfl⟩ := List.mem_map.1 hn
  exact tdiv_half m (bounds_i32 (h m hm))

theorem take_next {L : List Int} {i : Nat} (h : i < L.length) : L.take (i + 1) = L.take i ++ [L.getD i 0] := by
  rw [List.take_succ_eq_append_getElem h]
  simp [List.getD, h]

/-- Factors that are all 0. -/
theorem ts_zero (n : Nat) (x : List Int) (i : Nat) : ∀ j, ts (List.replicate n 0) x i j = 0 := by
  intro j
  induction j with
  | zero => rfl
  | succ j ih =>
    rw [ts, ih]
    have : (List.replicate n (0 : Int)).getD j 0 = 0 := by
      simp only [List.getD_eq_getElem?_getD, List.getElem?_replicate]
      split <;> rfl
    rw [this]
    simp

theorem lft_zero (n s : Nat) (x : List Int) : lft (List.replicate n 0) s x = x.drop n := by
  apply getD_ext
  · rw [lft_length]; simp
  · intro i hi
    rw [lft_length, List.length_replicate] at hi
    rw [lft_get _ _ _ _ (by rw [List.length_replicate]; exact hi)]
    unfold td
    rw [ts_zero, List.length_replicate]
    simp [List.getD]

theorem none_ok (n s : Nat) (h1 : 1 ≤ n) (h2 : n ≤ 32) (h3 : s ≤ 15) : lpcB (s : Int) 1 (List.replicate n 0) = false := by
  rw [lpc_tail (by rw [List.length_replicate]; omega)]
  rw [List.any_eq_false]
  intro f hf
  obtain ⟨-, rfl⟩ := List.mem_replicate.1 hf
  decide

theorem none_wide {x : List Int} (h : Bd 1073741824 x) (n : Nat) : (x.drop n).any wide = false := by
  rw [List.any_eq_false]
  intro m hm
  have := h.mem m (List.mem_of_mem_drop hm)
  unfold wide
  simp only [Bool.or_eq_true, decide_eq_true_eq]
  omega

theorem none_short {n s : Nat} {x : List Int} (h1 : 1 ≤ n) (h2 : n ≤ 32) (h3 : s ≤ 15) (h : x.length < n) : lresE (s : Int) 1 (List.replicate n 0) x = 2 :=
  lresE_short (none_ok n s h1 h2 h3) (by rw [List.length_replicate]; exact h)

theorem none_long {n s : Nat} {x : List Int} (h1 : 1 ≤ n) (h2 : n ≤ 32) (h3 : s ≤ 15) (h : n ≤ x.length) (hb : Bd 1073741824 x) : lresE (s : Int) 1 (List.replicate n 0) x = 0 ∧ lresL (s : Int) 1 (List.replicate n 0) x = x.drop n := by
  have hw : (lft (List.replicate n 0) (s : Int).toNat x).any wide = false := by rw [lft_zero]; exact none_wide hb n
  have hl : (List.replicate n (0 : Int)).length ≤ x.length := by rw [List.length_replicate]; exact h
  exact ⟨lresE_ok (none_ok n s h1 h2 h3) hl hw, by rw [lresL_ok (none_ok n s h1 h2 h3) hl hw, lft_zero]⟩

theorem none_nums {a c : Int} (ha : (Lit.int .u8 a).wf = true) (hc : (Lit.int .u8 c).wf = true) : ∃ n q S : Nat, 1 ≤ n ∧ n ≤ 32 ∧ S ≤ 15 ∧ a.tmod 32 = (q : Int) ∧ wrap64 (q : Int) = (q : Int) ∧ wrap64 (1 + (q : Int)) = (n : Int) ∧ c.tmod 16 = (S : Int) ∧ wrap64 (S : Int) = (S : Int) := by
  obtain ⟨p, rfl, hp⟩ := nat_u8 ha
  obtain ⟨q, rfl, hq⟩ := nat_u8 hc
  refine ⟨p % 32 + 1, p % 32, q % 16, by omega, by omega, by omega, ?_, by rw [w64_in _ (by omega)], by rw [w64_in _ (by omega)]; omega, ?_, by rw [w64_in _ (by omega)]⟩
  · rw [Int.tmod_eq_emod_of_nonneg (by omega)]; omega
  · rw [Int.tmod_eq_emod_of_nonneg (by omega)]; omega

def NoneInv (vx vs : Value) (n l b : Nat) (Y : List Int) (w : World) (a : Act) (w' : World) : Prop :=
  a.defers = [] ∧ a.tmps.size = 71 ∧ a.tmps[0]? = some vx ∧ a.tmps[2]? = some vs ∧ a.tmps[7]? = some (.bool true) ∧ a.tmps[8]? = some (.int .i64 (n : Int)) ∧ ∃ i : Nat, i ≤ l ∧ a.tmps[10]? = some (.int .i64 (i : Int)) ∧ ∃ u, a.tmps[9]? = some u ∧ w'.ownsRow b 3 1 u i (ivs (Y.take i)) ∧ Kept Nix w w'

theorem none_step (i l : Nat) (hi : i < l) (hl : l ≤ 80) : wrap64 ((i : Int) + 1) = ((i + 1 : Nat) : Int) ∧ (i : Int) < (l : Int) ∧ i + 1 ≤ maxLen ∧ (i + 1) * 8 ≤ 140737488355328 := by
  refine ⟨by rw [w64_in _ (by omega)]; omega, by omega, by simp only [maxLen]; omega, by omega⟩

set_option maxRecDepth 10000 in
set_option maxHeartbeats 4000000 in
theorem walk_LpcNone (w : World) (v : Value) (x : List Int) (hx : Sl w v (x.map (Value.int .i32))) (hw : ∀ n ∈ x, (Lit.int .i32 n).wf = true)
    (order : Int) (ho : (Lit.int .u8 order).wf = true) (shift : Int) (hs : (Lit.int .u8 shift).wf = true) :
    Calls Try.prog 9 #[v, .int .u8 order, .int .u8 shift] w fun e w' => e = .returned (.bool true) ∧ Kept Nix w w' := by
  obtain ⟨n, q, S, r1, r2, r3, r4, r5, r6, r8, r9⟩ := none_nums ho hs
  obtain ⟨xo, xc, rfl, -⟩ := hx.ints
  have HX := Lib.hid hx
  have HYB := Lib.hid (hv_bd hw)
  have HY := Lib.hid (hv_length x)
  have HYG := Lib.hid (fun i hi => And.intro (hv_get x i hi) ((bounds_i32 (hw _ (show x.getD i 0 ∈ x by simp [List.getD, hi])))))
  have HA := Lib.hid (awake_any w)
  have R1 := Lib.hid r1
  have R6 := Lib.hid r6
  have R2 := Lib.hid r2
  have R3 := Lib.hid r3
  have R8 := Lib.hid (And.intro r8 r9)
  clear hx hw ho hs r1 r2 r3 r8 r9
  go_enter Try.func9, Try.ntmps9
  go_upto_region 2 with (go_at_call 10; refine HA.out.mono ?_; rintro e w1 ⟨rfl, k1⟩; have K1 := Lib.hid k1; clear k1)
  clear HA
  by_cases hlen : 80 < x.length
  · have hd : decide ((80 : Int) < (x.length : Int)) = true := decide_eq_true (by omega)
    clear hlen
    go_wp2
    go_ret
    exact ⟨rfl, K1.out⟩
  have hd : decide ((80 : Int) < (x.length : Int)) = false := decide_eq_false (by omega)
  have HL := Lib.hid (show x.length ≤ 80 by omega)
  clear hlen
  go_wp2
  clear hd r4 r5 r6
  have HOWN := Lib.hid (World.ownsRow_nil w1 w1.heap.size 3 1)
  generalize hl : x.length = l at *
  have HLE := Lib.hid hl
  clear hl
  refine wp_loop (NoneInv (.slice xo l xc) (.int .u8 shift) n l w1.heap.size (hv x) w1) (fun a _ => l - (intOf (a.tmps.getD 10 undef)).toNat) ?_ ?_
  · exact ⟨rfl, rfl, rfl, rfl, rfl, congrArg (fun z => some (Value.int .i64 z)) R6.out, 0, Nat.zero_le _, rfl, _, rfl, HOWN.out, Kept.refl _ _⟩
  · clear HOWN
    rintro ⟨tm, df⟩ w2 ⟨rfl, hs, e0, e2, e7, e8, i, hi, e10, u, e9, ho, hk⟩
    simp only at hs e0 e2 e7 e8 e10 e9
    obtain ⟨f, hf, hg⟩ := fr_open hs
    have g0 := hg _ _ e0
    have g2 := hg _ _ e2
    have g7 := hg _ _ e7
    have g8 := hg _ _ e8
    have g10 := hg _ _ e10
    have g9 := hg _ _ e9
    simp only [List.range, List.range.loop, List.map] at hf
    rw [g0, g2, g7, g8, g10, g9] at hf
    clear g0 g2 g7 g8 g10 g9 hg hs e0 e2 e7 e8 e10 e9
    subst hf
    have HO := Lib.hid ho
    have HK := Lib.hid hk
    clear ho hk
    by_cases hlt : i < l
    · obtain ⟨b1, o1, rfl, hc1⟩ := cell_kind HX.out i (by rw [HLE.out]; exact hlt)
      have x1 := hc1 w2 (nix_trans K1.out HK.out)
      obtain ⟨q1, q2⟩ := HYG.out i hlt
      have q3 := tdiv_half _ q2
      have h1 : wrap64 (x.getD i 0) = x.getD i 0 := w64_in _ (by omega)
      have h2 : wrap64 ((x.getD i 0).tdiv 2) = (hv x).getD i 0 := by rw [w64_in _ (by omega), q1]
      obtain ⟨m1, m2, m3, m4⟩ := none_step i l hlt HL.out
      have HST := Lib.hid (take_next (L := hv x) (i := i) (by rw [HY.out]; exact hlt))
      have M1 := Lib.hid m1
      have M3 := Lib.hid m3
      have M4 := Lib.hid m4
      have HI := Lib.hid hlt
      have hdd : decide (i < l) = true := decide_eq_true hlt
      clear hc1 q1 q2 q3 hlt hi m1 m3 m4
      generalize (hv x).getD i 0 = y at *
      generalize x.getD i 0 = xi at *
      have O5 := Lib.hid (HO.out.alloc (.cells #[.int .i64 y] 3))
      have HBS := Lib.hid (show w1.heap.size ≤ (w2.alloc (.cells #[.int .i64 y] 3)).heap.size from (HK.out.alloc _).size)
      go_wp2_with (refine wpList_app _ rfl _ _ 22 rfl w1.heap.size 3 (.int .i64 0) 1 8 Try.underlying22 info_int rfl (by decide) _ _ _ rfl O5.out _ 1 1 [.int .i64 y] rfl (src_one w2 _ _ rfl) M3.out M4.out HBS.out ?_
                   intro v6 w6 o6 g6 n6; have k6 : Kept Nix w1 w6 := (HK.out.alloc _).grown g6 (fun kk hkk => .inr (O5.out.lt kk hkk).1); have K6 := Lib.hid k6; have O6 := Lib.hid o6; clear k6 o6 g6 n6)
      rw [M1.out]
      refine ⟨⟨rfl, rfl, rfl, rfl, rfl, rfl, i + 1, HI.out, rfl, v6, rfl, ?_, K6.out⟩, nearer HI.out rfl⟩
      rw [HST.out, ivs_append]
      exact O6.out
    · have hie : i = l := by omega
      subst hie
      have hdd : decide (i < i) = false := decide_eq_false hlt
      have ho := HO.out
      rw [List.take_of_length_le (by rw [HY.out]; exact Nat.le_refl _)] at ho
      obtain ⟨uo, uc, rfl, hc, -⟩ := owns_shape ho
      have OY := Lib.hid ho
      have HUC := Lib.hid hc
      obtain ⟨r8, r9⟩ := R8.out
      have hmk := make_int n (by have := R2.out; omega)
      clear ho hc hlt hi HO
      have hsz : (w2.alloc (.cells (ivs (List.replicate n 0)).toArray 3)).heap.size = w2.heap.size + 1 := by simp
      have hb3 := heap_alloc_new (w2.alloc (.cells (ivs (List.replicate n 0)).toArray 3)) (.cells #[.int .i64 (S : Int), .int .i64 1, .slice (some ⟨w2.heap.size, 0, none⟩) n n] 24)
      rw [hsz] at hb3
      have HF3 := Lib.hid ((sl_lit w2 (List.replicate n 0) n (by simp) (by have := R2.out; simp only [maxLen]; omega)).nix ((Kept.refl Nix _).alloc (.cells #[.int .i64 (S : Int), .int .i64 1, .slice (some ⟨w2.heap.size, 0, none⟩) n n] 24)))
      have K23 := Lib.hid (((Kept.refl Nix w2).alloc (.cells (ivs (List.replicate n 0)).toArray 3)).alloc (.cells #[.int .i64 (S : Int), .int .i64 1, .slice (some ⟨w2.heap.size, 0, none⟩) n n] 24))
      have HB3 := Lib.hid hb3
      clear hb3 hsz
      go_upto_region 11 with fail
      clear hmk r8 r9
      generalize (w2.alloc (.cells (ivs (List.replicate n 0)).toArray 3)).alloc (.cells #[.int .i64 (S : Int), .int .i64 1, .slice (some ⟨w2.heap.size, 0, none⟩) n n] 24) = w3 at *
      have SY := Lib.hid ((sl_of_owns OY.out).nix K23.out)
      have RS := Lib.hid (lres_any (S : Int) 1 _ _ (List.replicate n 0) (hv x) w3 HF3.out SY.out (HYB.out.mono (by decide)) (by rw [HY.out]; have := HL.out; omega))
      have K13 := Lib.hid (nix_trans K1.out (nix_trans HK.out K23.out))
      unfold LResPost at RS
      generalize w2.heap.size + 1 = g at *
      generalize w2.heap.size = g2 at *
      by_cases hsh : i < n
      · have HS := Lib.hid (none_short (n := n) (s := S) (x := hv x) R1.out R2.out R3.out (by rw [HY.out]; exact hsh))
        rw [HS.out] at RS
        have hd1 : decide ((i : Int) < (n : Int)) = true := decide_eq_true (by omega)
        have hd2 : decide (i < n) = true := decide_eq_true hsh
        clear hsh
        go_wp2_with (first
          | (refine wpList_load_row rfl 24 _ rfl g rfl 24 _ (0, 0) _ HB3.out Try.underlying24 rfl size_lpc ?_)
          | (go_at_call 12; refine RS.out.mono ?_; rintro e w4 ⟨u4, rfl, o4, k4⟩; clear RS; have K4 := Lib.hid k4; clear k4 o4))
        go_ret
        exact ⟨rfl, nix_trans K13.out K4.out⟩
      · obtain ⟨t1, t2⟩ := none_long (n := n) (s := S) (x := hv x) R1.out R2.out R3.out (by rw [HY.out]; omega) HYB.out
        rw [t1, t2] at RS
        have hd1 : decide ((i : Int) < (n : Int)) = false := decide_eq_false (by omega)
        have hd2 : decide (i < n) = false := decide_eq_false hsh
        have hf1 := fun w => run_from_i w uo i uc n (by omega)
        have hf2 := fun w => run_from_i_at w uo i uc n (by omega)
        have SD := Lib.hid (sl_drop_i SY.out n (by omega))
        have HLD := Lib.hid (show ((hv x).drop n).length < 1099511627776 by rw [List.length_drop, HY.out]; have := HL.out; omega)
        clear hsh t1 t2
        generalize (if uc = n then uo else _) = aoV at *
        generalize i - n = lV at *
        generalize uc - n = cV at *
        go_wp2_with (first
          | (refine wpList_load_row rfl 24 _ rfl g rfl 24 _ (0, 0) _ HB3.out Try.underlying24 rfl size_lpc ?_)
          | (go_at_call 12; refine RS.out.mono ?_; rintro e w4 ⟨u4, rfl, o4, k4⟩; clear RS; have K4 := Lib.hid k4; have II := Lib.hid (ints_eq (sl_of_owns o4) (SD.out.nix k4) HLD.out rfl); clear k4 o4)
          | (go_at_call 16; refine II.out.mono ?_; rintro e w5 ⟨rfl, n5, rfl⟩; clear II))
        go_ret
        exact ⟨rfl, nix_trans K13.out (K4.out.drewN n5)⟩

end Go.Proofs.Ytkpmofomlplihaa
