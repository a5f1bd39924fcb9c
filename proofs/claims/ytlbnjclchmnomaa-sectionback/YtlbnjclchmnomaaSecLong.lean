/- Package section: tooLong. -/
import Derived.Test.YtlbnjclchmnomaaSecIt
import Derived.Test.YtlbnjclchmnomaaSecPart
import Derived.Test.YtlbnjclchmnomaaPk17
import Derived.Deep.RegionLaw
namespace Go.Proofs.Ytlbnjclchmnomaa
open Go.RowKit Go.Shelf Bx
attribute [local go_sem] Oper.semAt_some

/-- What reads so in a world reads so in each in which its blocks are as they were. -/
theorem Sl.same {w W : World} {v : Value} {xs : List Value} (h : Sl w v xs) (hk : ∀ k, k < w.heap.size → W.heap[k]? = w.heap[k]?) : Sl W v xs := by
  obtain ⟨ao, cap, rfl, h1, h2, h3, h4⟩ := h
  refine ⟨ao, cap, rfl, h1, h2, h3, fun h0 => ?_⟩
  obtain ⟨b, off, e, hb, hc⟩ := h4 h0
  have hbl := hk b hb
  refine ⟨b, off, e, ?_, fun j u hu => (World.cell?_of_block hbl).trans (hc j u hu)⟩
  have h5 := hbl
  rw [Array.getElem?_eq_getElem hb] at h5
  exact (Array.getElem?_eq_some_iff.1 h5).1

/-- A part's numbers, as a window of all. -/
theorem win_sl {w : World} {lo : Option Addr} {n lc : Nat} {L : List Int} (h : Sl w (.slice lo n lc) (ivs L)) (C : List Nat) (hs : C.sum ≤ L.length) (i : Nat) (hi : i < C.length) : Sl w (winV lo lc (C.take i).sum (C.take (i + 1)).sum) (ivs ((pcz L C).getD i [])) := by
  have hn : n = L.length := by
    obtain ⟨_, _, e, _⟩ := h.ints
    simp only [Value.slice.injEq] at e
    exact e.2.1
  have hsn := sum_next C i hi
  have hsl := sum_take_le C (i + 1)
  rw [pcz_get L C i hi]
  unfold winV
  rw [show (C.take (i + 1)).sum - (C.take i).sum = C.getD i 0 by omega]
  exact sl_win h _ _ (by omega)

theorem all_of {P : List (List Int)} {ps : List (Int × Bool)} {m : Nat} (h : zall m P ps = true) : ∀ i, i < P.length → i < ps.length → zok m (P.getD i []) (ps.getD i (0, false)) = true := by
  intro i h1 h2
  cases hz : zok m (P.getD i []) (ps.getD i (0, false)) with
  | true => rfl
  | false => rw [zall_not m P ps i h1 h2 hz] at h; cases h

theorem lng_raw (Q : List Int) (k : Int) : lng Q (k, true) = false := rfl

theorem lng_yes {Q : List Int} {k : Int} {i : Nat} (hi : i < Q.length) (h : 65535 < fd (Q.getD i 0) / 2 ^ kk k) : lng Q (k, false) = true := by
  unfold lng
  simp only [Bool.not_false, Bool.true_and]
  exact List.any_eq_true.2 ⟨Q.getD i 0, by simp [List.getD, hi], by simpa using h⟩

theorem lng_no {Q : List Int} {k : Int} (h : ∀ i, i < Q.length → ¬ 65535 < fd (Q.getD i 0) / 2 ^ kk k) : lng Q (k, false) = false := by
  unfold lng
  simp only [Bool.not_false, Bool.true_and]
  refine List.any_eq_false.2 fun n hn => ?_
  obtain ⟨i, hi, rfl⟩ := List.getElem_of_mem hn
  have := h i hi
  simpa [List.getD, hi] using this

theorem lngs_yes {P : List (List Int)} {ps : List (Int × Bool)} {i : Nat} (hi : i < P.length) (h : lng (P.getD i []) (ps.getD i (0, false)) = true) : lngs P ps = true :=
  List.any_eq_true.2 ⟨i, List.mem_range.2 hi, h⟩
theorem lngs_no {P : List (List Int)} {ps : List (Int × Bool)} (h : ∀ i, i < P.length → lng (P.getD i []) (ps.getD i (0, false)) = false) : lngs P ps = false :=
  List.any_eq_false.2 fun i hi => by rw [h i (List.mem_range.1 hi)]; simp

theorem tlong_start (w : World) (uo : Option Addr) (un uc : Nat) (lo : Option Addr) (ln lc : Nat) (co : Option Addr) (cn cc : Nat) : ∀ w3, w3 = (((w.alloc (.cells #[.slice uo un uc] 23)).alloc (.cells #[.bool false] 4)).alloc (.cells #[.slice lo ln lc] 22)).alloc (.cells #[.slice co cn cc] 22) →
    w3.heap[w.heap.size]? = some (.cells #[.slice uo un uc] 23 (0, 0)) ∧ w3.heap[w.heap.size + 1]? = some (.cells #[.bool false] 4 (0, 0)) ∧ w3.heap[w.heap.size + 1 + 1]? = some (.cells #[.slice lo ln lc] 22 (0, 0)) ∧ w3.heap[w.heap.size + 1 + 1 + 1]? = some (.cells #[.slice co cn cc] 22 (0, 0)) ∧ Kept Nix w w3 ∧ w3.heap.size = w.heap.size + 4 := by
  rintro w3 rfl
  refine ⟨?_, ?_, ?_, heap_new (by simp), ((((Kept.refl _ w).alloc _).alloc _).alloc _).alloc _, by simp⟩
  · exact (Below.heap_alloc _ _ _ (by simp; omega)).trans ((Below.heap_alloc _ _ _ (by simp; omega)).trans ((Below.heap_alloc _ _ _ (by simp)).trans (heap_alloc_new _ _)))
  · exact (Below.heap_alloc _ _ _ (by simp)).trans ((Below.heap_alloc _ _ _ (by simp)).trans (heap_new (by simp)))
  · exact (Below.heap_alloc _ _ _ (by simp)).trans (heap_new (by simp))

theorem keepsFrom_one {B g : Nat} {W W' : World} {cs : Array Value} {t : TypeId} {fr : Nat × Nat} (hg : W.heap[g]? = some (.cells cs t fr)) (hk : Kept (One g) W W') : KeepsFrom B W W' :=
  ⟨hk.size, fun k o _ ho hc => hk.heap ho (fun e => by have e : k = g := e; subst e; rw [hg] at ho; cases ho; cases hc)⟩

def LongIn (g5 g7 xi : Nat) (vo : Option Addr) (vn vcc : Nat) (Q : List Int) (K : Nat) (W : World) (a : Act) (w' : World) : Prop :=
  a.defers = [] ∧ a.tmps.size = 40 ∧ a.tmps[5]? = some (.pointer (some ⟨g5, 0, none⟩)) ∧ a.tmps[7]? = some (.pointer (some ⟨g7, 0, none⟩)) ∧ a.tmps[8]? = some (.int .i64 (xi : Int)) ∧ a.tmps[22]? = some (.slice vo vn vcc) ∧ a.tmps[23]? = some (.int .i64 (vn : Int)) ∧
    ∃ j : Nat, j ≤ vn ∧ a.tmps[24]? = some (.int .i64 (j : Int)) ∧ Kept (One g7) W w' ∧ w'.heap[g7]? = some (.cells #[.bool false] 4 (0, 0)) ∧ ∀ i, i < j → ¬ 65535 < fd (Q.getD i 0) / 2 ^ K

set_option maxRecDepth 10000 in
set_option maxHeartbeats 4000000 in
theorem tlong_any (lv : Value) (L : List Int) (C : List Nat) (cv : Value) (uv : Value) (ps : List (Int × Bool)) (m : Nat) (w : World) (hl : Sl w lv (ivs L)) (hc : Sl w cv (ivs (ni C))) (hu : Pts w uv ps) (hs : C.sum ≤ L.length) (hn : C.length = ps.length)
    (hm : m ≤ 30) (hz : zall m (pcz L C) ps = true) (hll : L.length ≤ 1048576) :
    Calls Try.prog 24 #[lv, cv, uv] w fun e w' => e = .returned (.bool (lngs (pcz L C) ps)) ∧ Kept Nix w w' := by
  obtain ⟨lo, lc, rfl, hlc, hlm, -⟩ := hl.ints
  obtain ⟨co, cc, rfl, -⟩ := hc.ints
  obtain ⟨uo, uc, rfl, hp⟩ := hu.len
  rw [ni_length] at hc ⊢
  have HL := Lib.hid hl
  have HC := Lib.hid hc
  have HP := Lib.hid hp
  have HZ := Lib.hid hz
  have HS := Lib.hid (And.intro hs (And.intro hlc hlm))
  have HN := Lib.hid hn
  have HLL := Lib.hid hll
  have HM := Lib.hid hm
  clear hl hc hp hz hs hn hll hu hlc hlm hm
  refine (callsIn_wide (n := 3)).1 ?_
  refine callsIn_of_wp_marks Try.func24 rfl trivial ?_ rfl
  simp only [Try.ntmps24, List.size_toArray, List.length_cons, List.length_nil, Nat.reduceAdd, Nat.reduceSub, Array.replicate_succ, Array.replicate_zero, List.push_toArray, List.append_toArray, List.nil_append, List.cons_append]
  refine wpIn_wide.2 ?_
  go_wp2
  go_step3
  go_wp2
  go_step3
  go_wp2_with (go_at_call 26; refine (pieces_any _ _ _ _ _ _ _).mono ?_; rintro e w' ⟨rfl, rfl⟩)
  obtain ⟨b5, b7, bl, bc, k3, sz3⟩ := tlong_start w uo ps.length uc lo L.length lc co C.length cc _ rfl
  generalize (((w.alloc (.cells #[.slice uo ps.length uc] 23)).alloc (.cells #[.bool false] 4)).alloc (.cells #[.slice lo L.length lc] 22)).alloc (.cells #[.slice co C.length cc] 22) = w3 at *
  have SLT : ∀ k, (k = w.heap.size + 1 + 1 + 1 ∨ k = w.heap.size + 1 + 1 ∨ k < w.heap.size) → k < w3.heap.size := fun k hk => by omega
  refine (wpIn_wide (n := 3)).1 ?_
  refine wpIn_rangeFunc_ownH (F := Fence.wide) rfl (by omega) (gf := 46) (lb := #[.pointer (some ⟨w.heap.size + 1 + 1 + 1, 0, none⟩), .pointer (some ⟨w.heap.size + 1 + 1, 0, none⟩)]) rfl trivial (enters_of Try.func46 (by kernel_rfl) rfl)
    (pieces_stops _ C lo L.length lc co cc (w.heap.size + 1 + 1 + 1) (w.heap.size + 1 + 1) (fun k => k = w.heap.size + 1 + 1 + 1 ∨ k = w.heap.size + 1 + 1 ∨ k < w.heap.size) w3 bc bl
      (fun W hW => HC.out.same (fun k hk => (hW k (.inr (.inr hk))).trans (k3.block k hk id))) (.inl rfl) (.inr (.inl rfl)) SLT (by have := HS.out; omega) HS.out.2.2) keepsAll_t (keepsAll_b SLT) (Below.refl _ _) (fun _ => rfl)
    (fun pre W => Kept Nix w W ∧ (W.heap[w.heap.size]? = some (.cells #[.slice uo ps.length uc] 23 (0, 0)) ∧ (W.heap[w.heap.size + 1]? = some (.cells #[.bool false] 4 (0, 0)) ∧ (W.heap[w.heap.size + 1 + 1 + 1]? = some (.cells #[.slice co C.length cc] 22 (0, 0)) ∧ (∀ x ∈ pre, lng ((pcz L C).getD x.val []) (ps.getD x.val (0, false)) = false)))))
    (fun c pre W => Kept Nix w W ∧ (W.heap[w.heap.size + 1]? = some (.cells #[.bool true] 4 (0, 0)) ∧ (c = .exit 0 ∧ lngs (pcz L C) ps = true)))
    (OwnFrom.and (kept_ownFrom (by omega)) (OwnFrom.and heap_ownFrom (OwnFrom.and heap_ownFrom (OwnFrom.and heap_ownFrom (ownFrom_pure _ _)))))
    (fun c => OwnFrom.and (kept_ownFrom (by omega)) (OwnFrom.and heap_ownFrom (ownFrom_pure _ _)))
    ⟨k3, b5, b7, bc, fun x hx => by simp at hx⟩
    (fun x a' _ => a'.defers = [] ∧ a'.tmps.size = 40 ∧ a'.tmps[5]? = some (.pointer (some ⟨w.heap.size, 0, none⟩)) ∧ a'.tmps[7]? = some (.pointer (some ⟨w.heap.size + 1, 0, none⟩)) ∧ a'.tmps[8]? = some (.int .i64 (x.val : Int)) ∧ a'.tmps[9]? = some (winV lo lc (C.take x.val).sum (C.take (x.val + 1)).sum))
    (fun x a' => ownFrom_pure _ (fun _ => _))
    ?assign ?body ?done ?stop
  case assign =>
    rintro l pre x W K hi hK
    simp only [wenc]
    gi_wp2
    exact hK _ _ (KeepsFrom.refl _ _) (fun _ _ => rfl) hi ⟨rfl, rfl, rfl, rfl, rfl, rfl⟩
  case body =>
    rintro l pre x ⟨tm, df⟩ W hl0 _ ⟨hkW, h5, h7, hbc, hpre⟩ ⟨rfl, hs, e5, e7, e8, e9⟩ hlen
    simp only at hs e5 e7 e8 e9
    obtain ⟨f2, hf, hg⟩ := fr_open hs
    have g5 := hg _ _ e5
    have g7 := hg _ _ e7
    have g8 := hg _ _ e8
    have g9 := hg _ _ e9
    simp only [List.range, List.range.loop, List.map] at hf
    rw [g5, g7, g8, g9] at hf
    clear g5 g7 g8 g9 hg hs e5 e7 e8 e9
    subst hf
    have hxl := x.isLt
    have hxp : x.val < ps.length := by have := HN.out; omega
    obtain ⟨b1, o1, rfl, hc1⟩ := HP.out.at x.val hxp
    obtain ⟨y1, y2⟩ := hc1 W hkW
    have hok := all_of HZ.out x.val (by rw [pcz_length]; exact hxl) hxp
    have hws := win_sl HL.out C HS.out.1 x.val hxl
    have x5 : W.cell? ⟨w.heap.size, 0, none⟩ = some (.slice (some ⟨b1, o1, none⟩) ps.length uc) := by rw [cell_of h5]; rfl
    have hr1 : (x.val : Int) < (ps.length : Int) := by omega
    have HPRE := Lib.hid hpre
    have HKW := Lib.hid hkW
    have H5 := Lib.hid h5
    have H7 := Lib.hid h7
    have HBC := Lib.hid hbc
    have HXV := Lib.hid hxl
    have HYES := Lib.hid (fun h => lngs_yes (P := pcz L C) (ps := ps) (i := x.val) (by rw [pcz_length]; exact hxl) h)
    have HNEW := Lib.hid (show lng ((pcz L C).getD x.val []) (ps.getD x.val (0, false)) = false → ∀ y ∈ pre ++ [x], lng ((pcz L C).getD y.val []) (ps.getD y.val (0, false)) = false from fun h y hy => by
      rcases List.mem_append.1 hy with hy | hy
      · exact hpre y hy
      · obtain rfl := List.mem_singleton.1 hy
        exact h)
    unfold winV at hws ⊢
    have HC1 := Lib.hid hc1
    clear hpre hkW h5 h7 hbc hlen hl0 hxl hxp hc1
    generalize (pcz L C).getD x.val [] = Q at *
    generalize ps.getD x.val (0, false) = kr at *
    obtain ⟨k, r⟩ := kr
    simp only at y1 y2
    generalize (if lc = (C.take x.val).sum then lo else lo.map (fun z => z.add (C.take x.val).sum)) = vo at *
    generalize (C.take (x.val + 1)).sum - (C.take x.val).sum = vn at *
    generalize lc - (C.take x.val).sum = vcc at *
    generalize x.val = xi at *
    cases r with
    | true =>
      have HNW := Lib.hid (HNEW.out rfl)
      clear HNEW hok hws
      gi_wp2
      exact ⟨KeepsFrom.refl _ _, fun _ _ => rfl, HKW.out, H5.out, H7.out, HBC.out, HNW.out⟩
    | false =>
      have hvn : vn = Q.length := by
        obtain ⟨_, _, e, _⟩ := hws.ints
        simp only [Value.slice.injEq] at e
        exact e.2.1
      have hz1 := hok
      simp only [zok, Bool.and_eq_true, decide_eq_true_eq, Bool.false_or] at hz1
      have hm30 := HM.out
      obtain ⟨K, rfl⟩ : ∃ K : Nat, k = (K : Int) := ⟨k.toNat, by omega⟩
      have hkk : kk (K : Int) = K := by unfold kk; omega
      have NR := Lib.hid (fun i hi => nrs_get (ceach_pos hz1.1) i hi)
      have HK30 := Lib.hid (show K ≤ 30 by omega)
      have HWS := Lib.hid hws
      have HVN := Lib.hid hvn
      clear hok hws hz1 hvn hm30
      have NO := Lib.hid (fun h => HNEW.out (lng_no (Q := Q) (k := (K : Int)) h))
      have YES := Lib.hid (fun i hi h => HYES.out (lng_yes (Q := Q) (k := (K : Int)) (i := i) hi h))
      rw [hkk] at NO YES
      clear hkk HNEW HYES
      have HY1 := Lib.hid (show ∀ w', Kept (One (w.heap.size + 1)) W w' → Kept Nix w w' from fun w' h => nix_put HKW.out h (fun j hj => by have hj : j = w.heap.size + 1 := hj; omega))
      gi_wp2
      clear y1 y2 x5
      refine wpIn_loop (LongIn w.heap.size (w.heap.size + 1) xi vo vn vcc Q K W) (fun a _ => vn - (intOf (a.tmps.getD 24 undef)).toNat) ?_ ?_
      · exact ⟨rfl, rfl, rfl, rfl, rfl, rfl, rfl, 0, Nat.zero_le _, rfl, Kept.refl _ _, H7.out, fun i hi => absurd hi (Nat.not_lt_zero i)⟩
      · rintro ⟨tm, df⟩ W3 ⟨rfl, hs, e5, e7, e8, e22, e23, j, hj, e24, hk3, h73, hno⟩
        simp only at hs e5 e7 e8 e22 e23 e24
        obtain ⟨f3, hf, hg⟩ := fr_open hs
        have g5 := hg _ _ e5
        have g7 := hg _ _ e7
        have g8 := hg _ _ e8
        have g22 := hg _ _ e22
        have g23 := hg _ _ e23
        have g24 := hg _ _ e24
        simp only [List.range, List.range.loop, List.map] at hf
        rw [g5, g7, g8, g22, g23, g24] at hf
        clear g5 g7 g8 g22 g23 g24 hg hs e5 e7 e8 e22 e23 e24
        subst hf
        have HK3 := Lib.hid hk3
        have H73 := Lib.hid h73
        have HNO := Lib.hid hno
        clear hk3 h73 hno
        by_cases hlt : j < vn
        · have hd : decide ((j : Int) < (vn : Int)) = true := decide_eq_true (by omega)
          have hj1 : (j : Int) < (vn : Int) := by omega
          have hjq : j < Q.length := by have := HVN.out; omega
          have kW3 := HY1.out W3 HK3.out
          obtain ⟨b2, o2, rfl⟩ := (HWS.out.nix kW3).where (by omega)
          have x1 := (HWS.out.nix kW3).cellInt (i := j) hjq
          obtain ⟨y1, y2⟩ := HC1.out W3 kW3
          have x5 : W3.cell? ⟨w.heap.size, 0, none⟩ = some (.slice (some ⟨b1, o1, none⟩) ps.length uc) := by rw [cell_of (HK3.out.heap H5.out (show ¬ One _ _ from fun h => by have h : w.heap.size = w.heap.size + 1 := h; omega))]; rfl
          have z1 : W3.cell? ⟨w.heap.size + 1, 0, none⟩ = some (.bool false) := by rw [cell_of H73.out]; rfl
          have z2 : W3.frozen? ⟨w.heap.size + 1, 0, none⟩ = false := frozen_of H73.out
          have hnr := NR.out j hjq
          have hfn := fd_near hnr
          have hbn : -8589934592 ≤ Q.getD j 0 ∧ Q.getD j 0 < 8589934592 := by simpa [nr] using hnr
          have FO := Lib.hid (fun w' => fold_any (Q.getD j 0) w' (by omega) (by omega))
          have HJ := Lib.hid hlt
          have HJQ := Lib.hid hjq
          have HW := Lib.hid (show wrap64 ((j : Int) + 1) = ((j + 1 : Nat) : Int) by
            obtain ⟨_, _, e, h1, h2, _⟩ := HWS.out.ints
            simp only [Value.slice.injEq] at e
            simp [maxLen] at h2
            rw [w64_in _ (by omega)]; omega)
          have YJ := Lib.hid (YES.out j hjq)
          have NJ := Lib.hid (show ¬ 65535 < fd (Q.getD j 0) / 2 ^ K → ∀ i, i < j + 1 → ¬ 65535 < fd (Q.getD i 0) / 2 ^ K from fun h i hi => by
            by_cases hij : i = j
            · subst hij; exact h
            · exact HNO.out i (by omega))
          clear hlt hj hjq hnr hbn kW3 y2
          generalize Q.getD j 0 = n at *
          generalize fd n = u at *
          have e1 : (u : Int) / 2 ^ K = ((u / 2 ^ K : Nat) : Int) := by rw [Int.natCast_ediv, Int.natCast_pow]; rfl
          have e2 : min K 64 = K := by have := HK30.out; omega
          generalize u / 2 ^ K = H at *
          obtain ⟨b, hb⟩ : ∃ b, decide (65535 < H) = b := ⟨_, rfl⟩
          have HB := Lib.hid hb
          have t : decide ((65535 : Int) < (H : Int)) = b := by rw [← hb]; exact decide_eq_decide.2 (by omega)
          clear hfn hb
          have hmx : Try.prog.follows .mixedOrders = true := by kernel_rfl
          have x5d : W3.drew.cell? ⟨w.heap.size, 0, none⟩ = some (.slice (some ⟨b1, o1, none⟩) ps.length uc) := x5
          have z1d : W3.drew.cell? ⟨w.heap.size + 1, 0, none⟩ = some (.bool false) := z1
          have z2d : W3.drew.frozen? ⟨w.heap.size + 1, 0, none⟩ = false := z2
          have y1d : W3.drew.cell? ⟨b1, o1 + xi * 2, none⟩ = some (.int .i64 (K : Int)) := y1
          gi_wp2
          clear x5 z1 z2 y1
          refine wpIn_mono (Q := fun e a' w' => e = .normal ∧ a'.defers = [] ∧ a'.tmps.size = 40 ∧ a'.tmps[5]? = some (.pointer (some ⟨w.heap.size, 0, none⟩)) ∧ a'.tmps[7]? = some (.pointer (some ⟨w.heap.size + 1, 0, none⟩)) ∧ a'.tmps[8]? = some (.int .i64 (xi : Int)) ∧ a'.tmps[22]? = some (.slice (some ⟨b2, o2, none⟩) vn vcc) ∧ a'.tmps[23]? = some (.int .i64 (vn : Int)) ∧ a'.tmps[24]? = some (.int .i64 (j : Int)) ∧ w' = (W3.setCell ⟨w.heap.size + 1, 0, none⟩ (.bool b)).drew) ?_ ?_
          · gi_region_with_o (first
              | (refine ⟨trivial, ?_⟩; gi_at_call 44; refine (CallsIn.inRound l (callsIn_wide.2 (FO.out _))).mono ?_; rintro e w' ⟨rfl, rfl⟩))
            all_goals exact ⟨rfl, rfl, rfl, rfl, rfl, rfl, rfl, rfl, rfl, rfl⟩
          · rintro e ⟨tm, df⟩ W4 ⟨rfl, rfl, hs, e5, e7, e8, e22, e23, e24, rfl⟩
            simp only at hs e5 e7 e8 e22 e23 e24
            obtain ⟨f4, hf, hg⟩ := fr_open hs
            have g5 := hg _ _ e5
            have g7 := hg _ _ e7
            have g8 := hg _ _ e8
            have g22 := hg _ _ e22
            have g23 := hg _ _ e23
            have g24 := hg _ _ e24
            simp only [List.range, List.range.loop, List.map] at hf
            rw [g5, g7, g8, g22, g23, g24] at hf
            clear g5 g7 g8 g22 g23 g24 hg hs e5 e7 e8 e22 e23 e24 x5d z1d z2d y1d
            subst hf
            have K4 := Lib.hid (show Kept (One (w.heap.size + 1)) W (W3.setCell ⟨w.heap.size + 1, 0, none⟩ (.bool b)).drew from (HK3.out.setCell (p := ⟨w.heap.size + 1, 0, none⟩) (.inl rfl) _).drew)
            have H4 := Lib.hid (show (W3.setCell ⟨w.heap.size + 1, 0, none⟩ (.bool b)).drew.heap[w.heap.size + 1]? = some (.cells #[.bool b] 4 (0, 0)) from heap_set H73.out)
            generalize (W3.setCell ⟨w.heap.size + 1, 0, none⟩ (.bool b)).drew = W4 at *
            have z1 : W4.cell? ⟨w.heap.size + 1, 0, none⟩ = some (.bool b) := by rw [cell_of H4.out]; rfl
            cases b with
            | true =>
              have HY := Lib.hid (YJ.out (of_decide_eq_true HB.out))
              gi_wp2
              exact ⟨keepsFrom_one H7.out K4.out, HY1.out _ K4.out, H4.out, rfl, HY.out⟩
            | false =>
              have HN2 := Lib.hid (NJ.out (of_decide_eq_false HB.out))
              gi_wp2
              rw [HW.out]
              exact ⟨⟨rfl, rfl, rfl, rfl, rfl, rfl, rfl, j + 1, HJ.out, rfl, K4.out, H4.out, HN2.out⟩, nearer HJ.out rfl⟩
        · have hje : j = vn := by omega
          subst hje
          have hd : decide ((j : Int) < (j : Int)) = false := decide_eq_false (by omega)
          have HN2 := Lib.hid (NO.out (fun i hi => HNO.out i (by have := HVN.out; omega)))
          clear hlt hj
          gi_wp2
          refine ⟨keepsFrom_one H7.out HK3.out, fun k hk => HK3.out.block k ?_ ?_, HY1.out _ HK3.out, HK3.out.heap H5.out (fun h => by have h : w.heap.size = w.heap.size + 1 := h; omega), H73.out, HK3.out.heap HBC.out (fun h => by have h : w.heap.size + 1 + 1 + 1 = w.heap.size + 1 := h; omega), HN2.out⟩
          · have := lt_of_heap HBC.out
            omega
          · intro h
            have h : k = w.heap.size + 1 := h
            omega
  case done =>
    rintro D xs W hD rfl ⟨hkW, h5, h7, -, hin⟩ hK
    have HR := Lib.hid (show lngs (pcz L C) ps = false from lngs_no (fun i hi => hin ⟨i, by rw [pcz_length] at hi; exact hi⟩ (upto_mem _ _)))
    have z1 : W.cell? ⟨w.heap.size + 1, 0, none⟩ = some (.bool false) := by rw [cell_of h7]; rfl
    have HKW := Lib.hid hkW
    clear hkW h5 h7 hin
    go_wp2
    refine ⟨by simp, .inl ⟨_, _, rfl, run_takeDeferred hK, ?_⟩⟩
    exact ⟨_, results_tmp rfl _ _ _, by rw [HR.out]; rfl, HKW.out.putObj _ (by omega)⟩
  case stop =>
    rintro D c pre W hD hpre ⟨hkW, h7, rfl, hl⟩ hK
    have z1 : W.cell? ⟨w.heap.size + 1, 0, none⟩ = some (.bool true) := by rw [cell_of h7]; rfl
    have HKW := Lib.hid hkW
    have HR := Lib.hid hl
    clear hkW h7 hl hpre
    gi_wp2
    go_wp2
    refine ⟨by simp, .inl ⟨_, _, rfl, run_takeDeferred hK, ?_⟩⟩
    exact ⟨_, results_tmp rfl _ _ _, by rw [HR.out]; rfl, HKW.out.putObj _ (by omega)⟩

end Go.Proofs.Ytlbnjclchmnomaa
