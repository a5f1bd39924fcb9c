/- The walk of LpcFixed. -/
import Derived.Test.YtkpmofomlplihaaLNone12
import Derived.Test.YtkpmofomlplihaaFixResid
import Derived.Test.YtkpmofomlplihaaFixFac
namespace Go.Proofs.Ytkpmofomlplihaa
open Go.RowKit Bx

/-- What is left by 2^23, rounded to 0. -/
def md (x : List Int) : List Int := x.map (fun n => n.tmod 8388608)

theorem md_length (x : List Int) : (md x).length = x.length := by simp [md]
theorem md_get (x : List Int) (i : Nat) (h : i < x.length) : (md x).getD i 0 = (x.getD i 0).tmod 8388608 := by simp [md, List.getD, h]

theorem tmod_in (n : Int) : -8388608 ≤ n.tmod 8388608 ∧ n.tmod 8388608 ≤ 8388608 := by
  have h1 := Int.tmod_lt_of_pos n (show (0 : Int) < 8388608 by decide)
  have h2 := Int.tmod_lt_of_pos (-n) (show (0 : Int) < 8388608 by decide)
  rw [Int.neg_tmod] at h2
  omega

theorem md_bd (x : List Int) : Bd 8388608 (md x) := by
  apply bd_of_mem
  intro n hn
  obtain ⟨m, -, rfl⟩ := List.mem_map.1 hn
  exact tmod_in m

/-- The factors of an order, all of them 2^s times as much. -/
def fs (k s : Nat) : List Int := (fac k).map (fun f => f * 2 ^ s)

theorem fs_length (k s : Nat) (h : k ≤ 4) : (fs k s).length = k := by simp [fs, fac_length k h]
theorem fs_get (k s j : Nat) : (fs k s).getD j 0 = (fac k).getD j 0 * 2 ^ s := by
  simp only [fs, List.getD_eq_getElem?_getD, List.getElem?_map]
  cases (fac k)[j]? <;> simp

theorem ts_fs (k s : Nat) (x : List Int) (i : Nat) : ∀ j, ts (fs k s) x i j = ts (fac k) x i j * 2 ^ s := by
  intro j
  induction j with
  | zero => simp [ts]
  | succ j ih =>
    rw [ts, ts, ih, fs_get, Int.add_mul]
    congr 1
    rw [Int.mul_assoc, Int.mul_comm (2 ^ s), ← Int.mul_assoc]

theorem lft_fs (k s : Nat) (h : k ≤ 4) (x : List Int) : lft (fs k s) s x = dn k x := by
  apply getD_ext
  · rw [lft_length, dn_length, fs_length k s h]
  · intro i hi
    rw [lft_length, fs_length k s h] at hi
    rw [lft_get _ _ _ _ (by rw [fs_length k s h]; exact hi)]
    unfold td
    have h0 : (0 : Int) < 2 ^ s := Int.pow_pos (by decide)
    rw [ts_fs, fs_length k s h, Int.mul_ediv_cancel _ (show (2 : Int) ^ s ≠ 0 by omega), told_left k h x (k + i) (by omega) (by omega), show k + i - k = i by omega]

theorem fs_ok (k s : Nat) (h1 : 1 ≤ k) (h2 : k ≤ 4) (h3 : s ≤ 3) : lpcB (s : Int) 10 (fs k s) = false := by
  rcases (by omega : k = 1 ∨ k = 2 ∨ k = 3 ∨ k = 4) with rfl | rfl | rfl | rfl <;> rcases (by omega : s = 0 ∨ s = 1 ∨ s = 2 ∨ s = 3) with rfl | rfl | rfl | rfl <;> decide

theorem fs_same {k s : Nat} (h1 : 1 ≤ k) (h2 : k ≤ 4) (h3 : s ≤ 3) {x : List Int} (hb : Bd 8388608 x) : lresE (s : Int) 10 (fs k s) x = resE x.length (k : Int) ∧ lresL (s : Int) 10 (fs k s) x = resL x (k : Int) := by
  have hok := fs_ok k s h1 h2 h3
  have hw : (lft (fs k s) (s : Int).toNat x).any wide = false := by
    rw [Int.toNat_natCast, lft_fs k s h2, List.any_eq_false]
    intro m hm
    have := (hb.dn (by decide) k (by omega)).mem m hm
    unfold wide
    simp only [Bool.or_eq_true, decide_eq_true_eq]
    omega
  by_cases hl : x.length < k
  · have e1 := lresE_short (x := x) hok (by rw [fs_length k s h2]; exact hl)
    have e2 := resE_short (n := x.length) (order := (k : Int)) (by omega) (by omega)
    rw [e1, e2]
    exact ⟨rfl, by unfold lresL; rw [e1, resL_bad (by rw [e2]; decide)]; rfl⟩
  · have hle : (fs k s).length ≤ x.length := by rw [fs_length k s h2]; omega
    rw [lresE_ok hok hle hw, resE_ok h2 (by omega), lresL_ok hok hle hw, resL_ok h2 (by omega), Int.toNat_natCast, lft_fs k s h2]
    exact ⟨rfl, rfl⟩

theorem fixed_nums {a c : Int} (ha : (Lit.int .u8 a).wf = true) (hc : (Lit.int .u8 c).wf = true) : ∃ k q S : Nat, 1 ≤ k ∧ k ≤ 4 ∧ S ≤ 3 ∧ a.tmod 4 = (q : Int) ∧ wrap64 (q : Int) = (q : Int) ∧ wrap64 (1 + (q : Int)) = (k : Int) ∧ c.tmod 4 = (S : Int) ∧ wrap64 (S : Int) = (S : Int) := by
  obtain ⟨p, rfl, hp⟩ := nat_u8 ha
  obtain ⟨q, rfl, hq⟩ := nat_u8 hc
  refine ⟨p % 4 + 1, p % 4, q % 4, by omega, by omega, by omega, ?_, by rw [w64_in _ (by omega)], by rw [w64_in _ (by omega)]; omega, ?_, by rw [w64_in _ (by omega)]⟩
  · rw [Int.tmod_eq_emod_of_nonneg (by omega)]; omega
  · rw [Int.tmod_eq_emod_of_nonneg (by omega)]; omega

def FixInv (vx vk vs : Value) (l b : Nat) (Y : List Int) (w : World) (a : Act) (w' : World) : Prop :=
  a.defers = [] ∧ a.tmps.size = 98 ∧ a.tmps[0]? = some vx ∧ a.tmps[7]? = some (.bool true) ∧ a.tmps[8]? = some vk ∧ a.tmps[9]? = some vs ∧ ∃ i : Nat, i ≤ l ∧ a.tmps[11]? = some (.int .i64 (i : Int)) ∧ ∃ u, a.tmps[10]? = some u ∧ w'.ownsRow b 3 1 u i (ivs (Y.take i)) ∧ Kept Nix w w'

def FacInv (g k S b : Nat) (vy vf : Value) (w : World) (a : Act) (w' : World) : Prop :=
  a.defers = [] ∧ a.tmps.size = 98 ∧ a.tmps[7]? = some (.bool true) ∧ a.tmps[8]? = some (.int .i64 (k : Int)) ∧ a.tmps[9]? = some (.int .i64 (S : Int)) ∧ a.tmps[10]? = some vy ∧ a.tmps[12]? = some (.pointer (some ⟨g, 0, none⟩)) ∧ a.tmps[13]? = some vf ∧
  ∃ j : Nat, j ≤ k ∧ a.tmps[14]? = some (.int .i64 (j : Int)) ∧ ∃ u, w'.heap[g]? = some (.cells #[.int .i64 (S : Int), .int .i64 10, u] 24 (0, 0)) ∧ w'.ownsRow b 3 1 u j (ivs ((fs k S).take j)) ∧ Kept (One g) w w'

theorem facs_nums {k S j : Nat} (h4 : k ≤ 4) (h3 : S ≤ 3) (hj : j < k) : IntKind.i64.wrap (2 ^ min S 64) = (2 : Int) ^ S ∧ IntKind.i64.wrap ((fac k).getD j 0 * 2 ^ S) = (fs k S).getD j 0 ∧ wrap64 ((j : Int) + 1) = ((j + 1 : Nat) : Int) ∧ (j : Int) < (k : Int) ∧ j + 1 ≤ maxLen ∧ (j + 1) * 8 ≤ 140737488355328 := by
  have h8 : 1 ≤ (2 : Int) ^ S ∧ (2 : Int) ^ S ≤ 8 := by
    rcases (by omega : S = 0 ∨ S = 1 ∨ S = 2 ∨ S = 3) with rfl | rfl | rfl | rfl <;> decide
  have hf := (fac_bd k).any (by decide) j
  have hm := mulb (f := (fac k).getD j 0) (a := 6) (y := (2 : Int) ^ S) (m := 8) hf.1 hf.2 (by omega) (by omega)
  refine ⟨?_, ?_, by rw [w64_in _ (by omega)]; omega, by omega, by simp only [maxLen]; omega, by omega⟩
  · rw [Nat.min_eq_left (by omega), IntWalk.i64_in _ (by omega)]
  · rw [fs_get, IntWalk.i64_in _ (by omega)]

set_option maxRecDepth 10000 in
set_option maxHeartbeats 4000000 in
theorem walk_LpcFixed (w : World) (v : Value) (x : List Int) (hx : Sl w v (x.map (Value.int .i32))) (hw : ∀ n ∈ x, (Lit.int .i32 n).wf = true)
    (order : Int) (ho : (Lit.int .u8 order).wf = true) (shift : Int) (hs : (Lit.int .u8 shift).wf = true) :
    Calls Try.prog 6 #[v, .int .u8 order, .int .u8 shift] w fun e w' => e = .returned (.bool true) ∧ Kept Nix w w' := by
  obtain ⟨k, q, S, r1, r2, r3, r4, r5, r6, r8, r9⟩ := fixed_nums ho hs
  obtain ⟨xo, xc, rfl, -⟩ := hx.ints
  have HX := Lib.hid hx
  have HYB := Lib.hid (md_bd x)
  have HY := Lib.hid (md_length x)
  have HYG := Lib.hid (fun i hi => And.intro (md_get x i hi) ((bounds_i32 (hw _ (show x.getD i 0 ∈ x by simp [List.getD, hi])))))
  have HA := Lib.hid (awake_any w)
  have R1 := Lib.hid r1
  have R6 := Lib.hid r6
  have R2 := Lib.hid r2
  have R3 := Lib.hid r3
  have R8 := Lib.hid r9
  clear hx hw ho hs r1 r2 r3
  go_enter Try.func6, Try.ntmps6
  go_upto_region 2 with (go_at_call 10; refine HA.out.mono ?_; rintro e w1 ⟨rfl, k1⟩; have K1 := Lib.hid k1; clear k1)
  clear HA
  by_cases hlen : 80 < x.length
  · have hd : decide ((80 : Int) < (x.length : Int)) = true := decide_eq_true (by omega)
    clear hlen
    go_wp2
    go_ret
    exact ⟨rfl, K1.out⟩
  have hd : decide ((80 : Int) < (x.length : Int)) = false := decide_eq_false (by omega)
  have HL := Lib.hid (show x.length ≤ 80 by omega)
  clear hlen
  go_wp2
  clear hd r4 r5 r6 r8 r9
  have HOWN := Lib.hid (World.ownsRow_nil w1 w1.heap.size 3 1)
  generalize hl : x.length = l at *
  have HLE := Lib.hid hl
  clear hl
  refine wp_loop (FixInv (.slice xo l xc) (.int .i64 (k : Int)) (.int .i64 (S : Int)) l w1.heap.size (md x) w1) (fun a _ => l - (intOf (a.tmps.getD 11 undef)).toNat) ?_ ?_
  · exact ⟨rfl, rfl, rfl, rfl, congrArg (fun z => some (Value.int .i64 z)) R6.out, congrArg (fun z => some (Value.int .i64 z)) R8.out, 0, Nat.zero_le _, rfl, _, rfl, HOWN.out, Kept.refl _ _⟩
  · clear HOWN
    rintro ⟨tm, df⟩ w2 ⟨rfl, hs, e0, e7, e8, e9, i, hi, e11, u, e10, ho, hk⟩
    simp only at hs e0 e7 e8 e9 e11 e10
    obtain ⟨f, hf, hg⟩ := fr_open hs
    have g0 := hg _ _ e0
    have g7 := hg _ _ e7
    have g8 := hg _ _ e8
    have g9 := hg _ _ e9
    have g11 := hg _ _ e11
    have g10 := hg _ _ e10
    simp only [List.range, List.range.loop, List.map] at hf
    rw [g0, g7, g8, g9, g11, g10] at hf
    clear g0 g7 g8 g9 g11 g10 hg hs e0 e7 e8 e9 e11 e10
    subst hf
    have HO := Lib.hid ho
    have HK := Lib.hid hk
    clear ho hk
    by_cases hlt : i < l
    · obtain ⟨b1, o1, rfl, hc1⟩ := cell_kind HX.out i (by rw [HLE.out]; exact hlt)
      have x1 := hc1 w2 (nix_trans K1.out HK.out)
      obtain ⟨q1, q2⟩ := HYG.out i hlt
      have h1 : wrap64 (x.getD i 0) = x.getD i 0 := w64_in _ (by omega)
      have h2 : (x.getD i 0).tmod 8388608 = (md x).getD i 0 := q1.symm
      obtain ⟨m1, m2, m3, m4⟩ := none_step i l hlt HL.out
      have HST := Lib.hid (take_next (L := md x) (i := i) (by rw [HY.out]; exact hlt))
      have M1 := Lib.hid m1
      have M3 := Lib.hid m3
      have M4 := Lib.hid m4
      have HI := Lib.hid hlt
      have hdd : decide (i < l) = true := decide_eq_true hlt
      clear hc1 q1 q2 hlt hi m1 m3 m4
      generalize (md x).getD i 0 = y at *
      generalize x.getD i 0 = xi at *
      have O5 := Lib.hid (HO.out.alloc (.cells #[.int .i64 y] 3))
      have HBS := Lib.hid (show w1.heap.size ≤ (w2.alloc (.cells #[.int .i64 y] 3)).heap.size from (HK.out.alloc _).size)
      go_wp2_with (refine wpList_app _ rfl _ _ 22 rfl w1.heap.size 3 (.int .i64 0) 1 8 Try.underlying22 info_int rfl (by decide) _ _ _ rfl O5.out _ 1 1 [.int .i64 y] rfl (src_one w2 _ _ rfl) M3.out M4.out HBS.out ?_
                   intro v6 w6 o6 g6 n6; have k6 : Kept Nix w1 w6 := (HK.out.alloc _).grown g6 (fun kk hkk => .inr (O5.out.lt kk hkk).1); have K6 := Lib.hid k6; have O6 := Lib.hid o6; clear k6 o6 g6 n6)
      rw [M1.out]
      refine ⟨⟨rfl, rfl, rfl, rfl, rfl, rfl, i + 1, HI.out, rfl, v6, rfl, ?_, K6.out⟩, nearer HI.out rfl⟩
      rw [HST.out, ivs_append]
      exact O6.out
    · have hie : i = l := by omega
      subst hie
      have hdd : decide (i < i) = false := decide_eq_false hlt
      have ho := HO.out
      rw [List.take_of_length_le (by rw [HY.out]; exact Nat.le_refl _)] at ho
      have OY := Lib.hid ho
      clear ho hlt hi HO
      go_upto_region 11 with fail
      go_upto_region 12 with fail
      have hb3 := heap_alloc_new w2 (.cells #[.int .i64 (S : Int), .int .i64 10, .slice none 0 0] 24)
      have HG3 := Lib.hid (show w2.heap.size < (w2.alloc (.cells #[.int .i64 (S : Int), .int .i64 10, .slice none 0 0] 24)).heap.size by simp)
      have K23 := Lib.hid ((Kept.refl Nix w2).alloc (.cells #[.int .i64 (S : Int), .int .i64 10, .slice none 0 0] 24))
      have HB3 := Lib.hid hb3
      clear hb3
      generalize w2.alloc (.cells #[.int .i64 (S : Int), .int .i64 10, .slice none 0 0] 24) = w3 at *
      have FC := Lib.hid (factors_any (k : Int) w3)
      unfold FacPost at FC
      rw [show ((k : Nat) : Int).toNat = k from rfl, fac_length k R2.out] at FC
      go_upto_region 14 with (go_at_call 19; refine FC.out.mono ?_; rintro e w4 ⟨uf, rfl, of, kf⟩; clear FC; have OF := Lib.hid of; have K34 := Lib.hid kf; clear of kf)
      obtain ⟨fo, fc, rfl, -, -⟩ := owns_shape OF.out
      have HB4 := Lib.hid (K34.out.heap HB3.out id)
      have K24 := Lib.hid (nix_trans K23.out K34.out)
      have HG4 := Lib.hid (Nat.lt_of_lt_of_le HG3.out K34.out.size)
      have HOWN := Lib.hid (World.ownsRow_nil w4 w4.heap.size 3 1)
      have HFL := Lib.hid (fs_length k S R2.out)
      generalize hg0 : w2.heap.size = g at *
      have HG0 := Lib.hid hg0
      clear hg0
      refine wp_loop (FacInv g k S w4.heap.size u (.slice fo k fc) w4) (fun a _ => k - (intOf (a.tmps.getD 14 undef)).toNat) ?_ ?_
      · exact ⟨rfl, rfl, rfl, rfl, rfl, rfl, rfl, rfl, 0, Nat.zero_le _, rfl, _, HB4.out, HOWN.out, Kept.refl _ _⟩
      · clear HOWN
        rintro ⟨tm, df⟩ w5 ⟨rfl, hs, e7, e8, e9, e10, e12, e13, j, hj, e14, ul, hbl, hol, hkl⟩
        simp only at hs e7 e8 e9 e10 e12 e13 e14
        obtain ⟨f2, hf, hg⟩ := fr_open hs
        have g7 := hg _ _ e7
        have g8 := hg _ _ e8
        have g9 := hg _ _ e9
        have g10 := hg _ _ e10
        have g12 := hg _ _ e12
        have g13 := hg _ _ e13
        have g14 := hg _ _ e14
        simp only [List.range, List.range.loop, List.map] at hf
        rw [g7, g8, g9, g10, g12, g13, g14] at hf
        clear g7 g8 g9 g10 g12 g13 g14 hg hs e7 e8 e9 e10 e12 e13 e14
        subst hf
        have HBL := Lib.hid hbl
        have HOL := Lib.hid hol
        have HKL := Lib.hid hkl
        clear hbl hol hkl
        have OF5 := Lib.hid (HKL.out.owns OF.out (fun kk hkk he => by have := (own_lt OF.out hkk).1; have := HG3.out; have h : kk = g := he; omega))
        by_cases hlt : j < k
        · obtain ⟨gf, fcap, hfo, -, -, hgf, -⟩ := owns_pos OF5.out (by omega)
          simp only [Value.slice.injEq] at hfo
          obtain ⟨rfl, -, -⟩ := hfo
          obtain ⟨m1, m2, m3, m4, m5, m6⟩ := facs_nums R2.out R3.out hlt
          have hc := OF5.out.cellAt j (by omega)
          rw [ivs_get _ _ (by rw [fac_length k R2.out]; exact hlt)] at hc
          have x1 : w5.drew.cell? ⟨gf, j, none⟩ = some (.int .i64 ((fac k).getD j 0)) := hc
          have c1 : w5.drew.cell? ⟨g, 2, none⟩ = some ul := (cell_of (w := w5) HBL.out).trans rfl
          have hst := take_next (L := fs k S) (i := j) (by rw [HFL.out]; exact hlt)
          have HST := Lib.hid hst
          have HI := Lib.hid hlt
          have M3 := Lib.hid m3
          have M5 := Lib.hid m5
          have M6 := Lib.hid m6
          have hdd : decide (j < k) = true := decide_eq_true hlt
          clear hc hst hlt hj m3 m5 m6 hgf
          generalize (fac k).getD j 0 = fj at *
          generalize (fs k S).getD j 0 = y at *
          generalize (2 : Int) ^ S = P at *
          have O5 := Lib.hid (((((Kept.refl Nix w5).drew).owns HOL.out (fun _ _ h => h))).alloc (.cells #[.int .i64 y] 3))
          have c2 : (w5.alloc (.cells #[.int .i64 y] 3)).drew.cell? ⟨g, 2, none⟩ = some ul := (cell_of (((Kept.refl Nix w5).drew.alloc (.cells #[.int .i64 y] 3)).heap HBL.out id)).trans rfl
          have HB5 := Lib.hid (((Kept.refl Nix w5).drew.alloc (.cells #[.int .i64 y] 3)).heap HBL.out id)
          have HBS := Lib.hid (show w4.heap.size ≤ (w5.drew.alloc (.cells #[.int .i64 y] 3)).heap.size from ((HKL.out.drew).alloc _).size)
          go_wp2_with fail
          go_region_law
            (first
              | (refine step_app (w5.drew.alloc (.cells #[.int .i64 y] 3)) rfl (.tmp 57) (.tmp 65) 22 rfl w4.heap.size 3 (.int .i64 0) 1 8 Try.underlying22 info_int rfl (by decide) ul _ _ rfl O5.out _ 1 1 [.int .i64 y] rfl (src_one w5.drew _ _ rfl) M5.out M6.out HBS.out ?_; intro v6 w6 o6 g6 n6; have HH6 := Lib.hid (((Kept.refl (Own ul) (w5.drew.alloc (.cells #[.int .i64 y] 3))).grown g6 (fun kk hkk => .inl hkk)).heap HB5.out (fun h => by have := (own_lt O5.out h).1; have := HG4.out; omega)); have c6 : w6.cell? ⟨g, 2, none⟩ = some ul := (cell_of HH6.out).trans rfl; have z6 : w6.frozen? ⟨g, 2, none⟩ = false := frozen_of HH6.out; obtain ⟨gz, cz, rfl, -⟩ := owns_pos o6 (Nat.succ_pos _); have O6 := Lib.hid o6; have K6 := Lib.hid (((HKL.out.drew).alloc (.cells #[.int .i64 y] 3)).grown g6 (fun kk hkk => .inr (own_lt O5.out hkk).1)); clear o6 g6 n6))
          all_goals
            clear c1 c2 c6 z6 x1 m1 m2 m4
            have K67 := Lib.hid ((Kept.refl (One g) w6).setCell (p := ⟨g, 2, none⟩) (.inl rfl) (.slice (some ⟨gz, 0, none⟩) (j + 1) cz))
            go_wp2
            rw [M3.out]
            refine ⟨⟨rfl, rfl, rfl, rfl, rfl, rfl, rfl, rfl, j + 1, HI.out, rfl, _, heap_set HH6.out, ?_, K6.out.setCell (p := ⟨g, 2, none⟩) (.inl rfl) _⟩, nearer HI.out rfl⟩
            rw [HST.out, ivs_append]
            exact K67.out.owns O6.out (fun kk hkk he => by have := (own_lt O6.out hkk).1; have := HG4.out; have h : kk = g := he; omega)
        · have hje : j = k := by omega
          subst hje
          have hdd : decide (j < j) = false := decide_eq_false hlt
          have hol := HOL.out
          rw [List.take_of_length_le (by rw [HFL.out]; exact Nat.le_refl _)] at hol
          have OL := Lib.hid hol
          have OY5 := Lib.hid (HKL.out.owns (K24.out.owns OY.out (fun _ _ h => h)) (fun kk hkk he => by have := (own_lt OY.out hkk).2; have h : kk = g := he; have := HG0.out; omega))
          have SY := Lib.hid (sl_of_owns OY5.out)
          have SL := Lib.hid (sl_of_owns OL.out)
          have FR := Lib.hid (res_any _ (md x) (j : Int) w5 SY.out (by rw [HY.out]; have := HL.out; omega) (HYB.out.mono (by decide)))
          have LR := Lib.hid (fun w' (kk : Kept Nix w5 w') => lres_any (S : Int) 10 _ _ (fs j S) (md x) w' (SL.out.nix kk) (SY.out.nix kk) (HYB.out.mono (by decide)) (by rw [HY.out]; have := HL.out; omega))
          unfold ResPost at FR
          unfold LResPost at LR
          rw [(fs_same R1.out R2.out R3.out HYB.out).1, (fs_same R1.out R2.out R3.out HYB.out).2] at LR
          have KW := Lib.hid (nix_trans K1.out (nix_trans HK.out (nix_put K24.out HKL.out (fun kk h => by have h : kk = g := h; have := HG0.out; omega))))
          obtain ⟨lo, lc, rfl, -, -⟩ := owns_shape OL.out
          have HLR := Lib.hid (show (resL (md x) (j : Int)).length < 1099511627776 by
            by_cases hz : resE (md x).length (j : Int) = 0
            · unfold resL; rw [if_pos hz, dn_length, HY.out]; have := HL.out; omega
            · rw [resL_bad hz]; decide)
          have HB5 := Lib.hid (fun w' (kk : Kept Nix w5 w') => kk.heap HBL.out id)
          rw [HY.out] at FR LR
          clear hol hlt hj
          generalize resE i (j : Int) = E at *
          generalize resL (md x) (j : Int) = R at *
          have hee : (E == E) = true := beq_self_eq_true _
          go_wp2_with (first
            | (go_at_call 20; refine FR.out.mono ?_; rintro e w6 ⟨u6, rfl, o6, k6⟩; clear FR; have K6 := Lib.hid k6; have S6 := Lib.hid (sl_of_owns o6); clear k6 o6)
            | (refine wpList_load_row rfl 24 _ rfl g rfl 24 _ (0, 0) _ (HB5.out _ K6.out) Try.underlying24 rfl size_lpc ?_)
            | (go_at_call 12; refine (LR.out _ K6.out).mono ?_; rintro e w7 ⟨u7, rfl, o7, k7⟩; clear LR; have K7 := Lib.hid (nix_trans K6.out k7); have II := Lib.hid (ints_eq (S6.out.nix k7) (sl_of_owns o7) HLR.out rfl); clear k7 o7)
            | (go_at_call 16; refine II.out.mono ?_; rintro e w8 ⟨rfl, n8, hw8⟩; clear II; have K8 := Lib.hid (show Kept Nix w5 w8 by rw [hw8]; exact K7.out.drewN n8); have y2 : w8.cell? ⟨g, 2, none⟩ = some (.slice lo j lc) := (cell_of (HB5.out _ K8.out)).trans rfl; clear hw8))
          go_ret
          exact ⟨rfl, nix_trans KW.out K8.out⟩

end Go.Proofs.Ytkpmofomlplihaa
