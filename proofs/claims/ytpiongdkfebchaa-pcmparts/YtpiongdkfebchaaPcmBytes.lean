/- Package pcm: Bytes. -/
import Derived.Test.YtpiongdkfebchaaPcmCheck
import Derived.Deep.RegionHeld3
import Derived.Maps.AppendAt
namespace Go.Proofs.Ytpiongdkfebchaa
open Go.RowKit Go.Shelf Bx
attribute [local go_sem] Oper.semAt_some

theorem many_in (w0 : World) (r d : Int) (v : Value) (L : List (List Int)) (h : Chs w0 v L) (w : World) (hk : Kept Nix w0 w) : Calls Try.prog 13 #[.agg #[.int .i64 r, .int .i64 d, v]] w fun e w' => e = .returned (.int .i64 ((manyN L : Nat) : Int)) ∧ Kept Nix w0 w' ∧ Kept Nix w w' :=
  (many_any r d v L w (h.nix hk)).mono fun _ _ ⟨h1, h2⟩ => ⟨h1, nix_trans hk h2, h2⟩

theorem chk_kind {r d : Int} {L : List (List Int)} (h : chkE r d L = 0) : kindE r d (L.length : Int) = 0 := by
  unfold chkE at h
  split at h
  · assumption
  · exact absurd h (by assumption)

theorem kind_parts {r d : Int} {n : Nat} (h : kindE r d (n : Int) = 0) : 1 ≤ n ∧ n ≤ 8 ∧ 4 ≤ d ∧ d ≤ 32 := by
  unfold kindE at h
  split at h
  · omega
  · split at h
    · omega
    · omega

theorem chk_even {r d : Int} {L : List (List Int)} (h : chkE r d L = 0) : ∀ j, j < L.length → (L.getD j []).length = manyN L := by
  unfold chkE at h
  split at h
  · split at h
    · rename_i he
      intro j hj
      unfold evenB at he
      rw [List.all_eq_true] at he
      have := he L[j] (List.getElem_mem hj)
      simp [List.getD, hj]
      simpa using this
    · omega
  · exact absurd h (by assumption)

theorem len_facts {e C M : Nat} (he : e ≤ 4) (hC : C ≤ 8) (hM : M < 1099511627776) :
    ∃ n1 n2 : Nat, n1 = e * C ∧ n2 = e * C * M ∧ wrap64 ((e : Int) * (C : Int)) = (n1 : Int) ∧ wrap64 ((n1 : Int) * (M : Int)) = (n2 : Int) ∧ wrap64 ((e : Int) * (C : Int) * (M : Int)) = (n2 : Int) ∧ n2 ≤ 35184372088832 := by
  have h1 : e * C ≤ 32 := Nat.mul_le_mul he hC
  have h2 : e * C * M ≤ 32 * 1099511627776 := Nat.mul_le_mul h1 (Nat.le_of_lt hM)
  refine ⟨e * C, e * C * M, rfl, rfl, ?_⟩
  rw [← Int.natCast_mul, ← Int.natCast_mul]
  generalize e * C * M = N at *
  generalize e * C = n at *
  exact ⟨w64_in _ (by omega), w64_in _ (by omega), w64_in _ (by omega), by omega⟩

theorem make_bytes (n : Nat) (h : n ≤ 35184372088832) (w : World) : (Instr.makeSlice 33 (.int .i64 0) (.int .i64 (n : Int))).run Try.prog w = .ok (.slice (some ⟨w.heap.size, 0, none⟩) 0 n) (w.alloc (.cells (madeCells #[.int .u8 0] n) 5)) := by
  obtain ⟨i0, hi0, hz0, hzs, hzb⟩ := info_parts info_u8
  have hr := run_make (P := Try.prog) w 33 5 i0 (.int .u8 0) Try.underlying33 hi0 hz0 .i64 .i64 0 (n : Int) (Int.le_refl _) (by omega) (by rw [hzb]; omega) (by omega)
  simp only [Int.toNat_zero, Int.toNat_natCast, hzs, Nat.mul_one] at hr
  exact hr

theorem bytes_start (w : World) (n C M : Nat) (hn : n ≤ 35184372088832) : ∀ w', w' = (((w.alloc (.cells (madeCells #[.int .u8 0] n) 5)).alloc (.cells #[.slice (some ⟨w.heap.size, 0, none⟩) 0 n] 33)).alloc (.cells #[.int .i64 (C : Int)] 3)).alloc (.cells #[.int .i64 (M : Int)] 3) →
    w'.ownsRow w.heap.size 5 1 (.slice (some ⟨w.heap.size, 0, none⟩) 0 n) 0 [] ∧ Boxed w' (w.heap.size + 1) 33 (.slice (some ⟨w.heap.size, 0, none⟩) 0 n) ∧
    w'.heap[w.heap.size + 1 + 1]? = some (.cells #[.int .i64 (C : Int)] 3 (0, 0)) ∧ w'.heap[w.heap.size + 1 + 1 + 1]? = some (.cells #[.int .i64 (M : Int)] 3 (0, 0)) ∧ Kept Nix w w' ∧ w'.heap.size = w.heap.size + 4 := by
  rintro w' rfl
  refine ⟨?_, ?_, ?_, heap_new (by simp), ((((Kept.refl _ w).alloc _).alloc _).alloc _).alloc _, by simp⟩
  · have h := World.ownsRow_made (base := w.heap.size) (e := 5) (size := 1) w (madeCells #[.int .u8 0] n) n (Nat.le_refl _) (by simp [maxLen]; omega) (by simp [size_madeCells])
    exact ((h.alloc _).alloc _).alloc _
  · exact (Below.heap_alloc _ _ _ (by simp)).trans ((Below.heap_alloc _ _ _ (by simp)).trans (heap_new (by simp)))
  · exact (Below.heap_alloc _ _ _ (by simp)).trans (heap_new (by simp))

theorem smp_cells {W : World} {ao : Option Addr} {n cap : Nat} {L : List (List Int)} (h : Chs W (.slice ao n cap) L) (hL0 : 0 < L.length) (hev : ∀ j, j < L.length → (L.getD j []).length = manyN L) {x : Nat} (hx : x < manyN L * L.length) :
    ∃ b off b' off' cc, ao = some ⟨b, off, none⟩ ∧ x % L.length < L.length ∧ x / L.length < manyN L ∧ W.cell? ⟨b, off + x % L.length, none⟩ = some (.slice (some ⟨b', off', none⟩) (manyN L) cc) ∧ W.cell? ⟨b', off' + x / L.length, none⟩ = some (.int .i64 (smp L x)) := by
  have hcl : x % L.length < L.length := Nat.mod_lt _ hL0
  have hil : x / L.length < manyN L := by rw [Nat.div_lt_iff_lt_mul hL0]; exact hx
  obtain ⟨b, off, rfl, hb, A, C, hh⟩ := h.at hL0
  obtain ⟨hrow, hsl⟩ := hh _ hcl
  have hlen2 := hev _ hcl
  obtain ⟨b', off', hA⟩ := hsl.where (by rw [hlen2]; exact Nat.lt_of_le_of_lt (Nat.zero_le _) hil)
  rw [hA] at hsl hrow
  have hcell := hsl.cellInt (i := x / L.length) (by rw [hlen2]; exact hil)
  rw [hlen2] at hrow
  exact ⟨b, off, b', off', _, rfl, hcl, hil, hrow, hcell⟩

theorem flat_len {α : Type} (l : List α) (f : α → List Nat) (e : Nat) (h : ∀ x, (f x).length = e) : (l.flatMap f).length = l.length * e := by
  induction l with
  | nil => simp
  | cons a l ih => rw [List.flatMap_cons, List.length_append, ih, h, List.length_cons, Nat.add_mul, Nat.one_mul, Nat.add_comm]

theorem kept_below {a b c : World} (h : Kept Nix a b) (k : Below a.heap.size b c) : Kept Nix a c :=
  ⟨k.os.trans h.os, k.tape.trans h.tape, k.output.trans h.output, Nat.le_trans h.size k.size, fun i hi hn => (k.block i hi).trans (h.block i hi hn)⟩

theorem u8s_snoc (B : List Nat) (x : Nat) : u8s B ++ [.int .u8 (x : Int)] = u8s (B ++ [x]) := by simp [u8s]

theorem upto_flat (N k : Nat) (h : k ≤ N) (f : Nat → List Nat) : (upto N k).flatMap (fun x => f x.val) = (List.range k).flatMap f := by
  induction k with
  | zero => rfl
  | succ k ih => rw [upto_succ N k h, List.flatMap_append, ih (by omega), List.range_succ, List.flatMap_append]; rfl

def BytesIn (p1 p3 p6 Bc : Nat) (n : Int) (e C : Nat) (BB : List Nat) (w2 W : World) (B0 : Nat) (a : Act) (w' : World) : Prop :=
  a.defers = [] ∧ a.tmps.size = 52 ∧ a.tmps[1]? = some (.pointer (some ⟨p1, 0, none⟩)) ∧ a.tmps[3]? = some (.pointer (some ⟨p3, 0, none⟩)) ∧ a.tmps[6]? = some (.pointer (some ⟨p6, 0, none⟩)) ∧ a.tmps[40]? = some (.int .i64 (e : Int)) ∧
    ∃ j : Nat, j ≤ e ∧ a.tmps[41]? = some (.int .i64 (j : Int)) ∧ a.tmps[9]? = some (.int .i64 (n / 256 ^ j)) ∧ Kept Nix w2 w' ∧ KeepsFrom B0 W w' ∧ w'.heap[Bc]? = some (.cells #[.int .i64 (C : Int)] 3 (0, 0)) ∧
      ∃ v, Boxed w' p6 33 v ∧ w'.ownsRow w2.heap.size 5 1 v (BB ++ sb n j).length (u8s (BB ++ sb n j))

/-- A sound's bytes. -/
def bytesOf (L : List (List Int)) (d : Int) : List Nat := (List.range (manyN L * L.length)).flatMap (fun x => sb (smp L x) (eachN d))

set_option maxRecDepth 10000 in
set_option maxHeartbeats 2000000 in
theorem bytes_bad (r d : Int) (v : Value) (L : List (List Int)) (w : World) (h : Chs w v L) (hM : manyN L < 1099511627776) (hk : chkE r d L ≠ 0) :
    Calls Try.prog 23 #[.agg #[.int .i64 r, .int .i64 d, v]] w fun e w' => e = .returned (.slice none 0 0) ∧ Kept Nix w w' := by
  have k1 : Kept Nix w (w.alloc (.cells #[.int .i64 r, .int .i64 d, v] 24)) := (Kept.refl _ w).alloc _
  have HC := check_any r d v L _ (h.nix k1) hM
  have K1 := Lib.hid k1
  have ht : (chkE r d L != 0) = true := bne_iff_ne.2 hk
  obtain ⟨ao, cap, rfl, _⟩ := h.open
  clear h hM hk k1
  generalize chkE r d L = e0 at *
  refine (callsIn_wide (n := 3)).1 ?_
  refine callsIn_of_wp_marks Try.func23 rfl trivial ?_ rfl
  simp only [Try.ntmps23, List.size_toArray, List.length_cons, List.length_nil, Nat.reduceAdd, Nat.reduceSub, Array.replicate_succ, Array.replicate_zero, List.push_toArray, List.append_toArray, List.nil_append, List.cons_append]
  gi_wp2_with (first
    | (refine ⟨trivial, ?_⟩; gi_at_call 11; refine (callsIn_wide.2 HC).mono ?_; rintro e w' ⟨rfl, hk2⟩))
  exact ⟨_, results_tmp rfl _ _ _, rfl, nix_trans K1.out hk2⟩

set_option maxRecDepth 10000 in
set_option maxHeartbeats 2000000 in
theorem bytes_good (r d : Int) (v : Value) (L : List (List Int)) (w : World) (h : Chs w v L) (hM : manyN L < 1099511627776) (hk : chkE r d L = 0) :
    Calls Try.prog 23 #[.agg #[.int .i64 r, .int .i64 d, v]] w fun e w' => ∃ u, e = .returned u ∧ Sl w' u (u8s (bytesOf L d)) ∧ Kept Nix w w' := by
  have k1 : Kept Nix w (w.alloc (.cells #[.int .i64 r, .int .i64 d, v] 24)) := (Kept.refl _ w).alloc _
  have HC := check_any r d v L _ (h.nix k1) hM
  have hb1 : (w.alloc (.cells #[.int .i64 r, .int .i64 d, v] 24)).heap[w.heap.size]? = some (.cells #[.int .i64 r, .int .i64 d, v] 24 (0, 0)) := World.alloc_heap_new w _
  have HB1 := Lib.hid hb1
  have K1 := Lib.hid k1
  have HCH := Lib.hid h
  rw [hk] at HC
  have HK := Lib.hid hk
  have HM := Lib.hid hM
  obtain ⟨ao, cap, rfl, _⟩ := h.open
  clear h hM hk k1 hb1
  refine (callsIn_wide (n := 3)).1 ?_
  refine callsIn_of_wp_marks Try.func23 rfl trivial ?_ rfl
  simp only [Try.ntmps23, List.size_toArray, List.length_cons, List.length_nil, Nat.reduceAdd, Nat.reduceSub, Array.replicate_succ, Array.replicate_zero, List.push_toArray, List.append_toArray, List.nil_append, List.cons_append]
  gi_wp2_with (first
    | (refine ⟨trivial, ?_⟩; gi_at_call 11; refine (callsIn_wide.2 HC).mono ?_; rintro e w1 ⟨rfl, hk2⟩; have HB2 := Lib.hid (hk2.heap HB1.out id); have K2 := Lib.hid (nix_trans K1.out hk2); clear hk2))
  have HC1 := HCH.out.nix K2.out
  have b1 := HB2.out
  have hz1 : w1.cell? ⟨w.heap.size, 0, none⟩ = some (.int .i64 r) := by rw [cell_of b1]; rfl
  have hz2 : w1.cell? ⟨w.heap.size, 1, none⟩ = some (.int .i64 d) := by rw [cell_of b1]; rfl
  have hz3 : w1.cell? ⟨w.heap.size, 2, none⟩ = some (.slice ao L.length cap) := by rw [cell_of b1]; rfl
  have CL := Lib.hid (show ∀ w', Kept Nix w1 w' → w'.cell? ⟨w.heap.size, 0, none⟩ = some (.int .i64 r) ∧ w'.cell? ⟨w.heap.size, 1, none⟩ = some (.int .i64 d) ∧ w'.cell? ⟨w.heap.size, 2, none⟩ = some (.slice ao L.length cap) from by
    intro w' hk
    have hb := hk.heap HB2.out id
    refine ⟨?_, ?_, ?_⟩ <;> (rw [cell_of hb]; rfl))
  have MI := Lib.hid (many_in w1 r d _ L HC1)
  have HC1' := Lib.hid HC1
  clear HC HC1 b1
  refine wpIn_mono (Q := fun e a' w' => e = .normal ∧ a'.defers = [] ∧ a'.tmps.size = 52 ∧ a'.tmps[1]? = some (.pointer (some ⟨w.heap.size, 0, none⟩)) ∧ a'.tmps[4]? = some (.int .i64 (L.length : Int)) ∧ a'.tmps[5]? = some (.int .i64 (manyN L : Int)) ∧
    Kept Nix w1 w' ∧ ∃ p3, w1.heap.size ≤ p3 ∧ a'.tmps[3]? = some (.pointer (some ⟨p3, 0, none⟩)) ∧ w'.heap[p3]? = some (.cells #[.int .i64 (eachN d : Int)] 3 (0, 0))) ?_ ?_
  · refine wpIn_wide.2 ?_
    go_region_held3 (fun w' => Kept Nix w1 w' ∧ w'.cell? ⟨w.heap.size, 0, none⟩ = some (.int .i64 r) ∧ w'.cell? ⟨w.heap.size, 1, none⟩ = some (.int .i64 d) ∧ w'.cell? ⟨w.heap.size, 2, none⟩ = some (.slice ao L.length cap))
      (first | assumption | exact ⟨(Kept.refl _ _).drew, hz1, hz2, hz3⟩ | exact ⟨HKK.out, CL.out _ HKK.out⟩ | exact ⟨HKK.out.alloc _, CL.out _ (HKK.out.alloc _)⟩ | exact ⟨((Kept.refl _ _).drew).alloc _, CL.out _ (((Kept.refl _ _).drew).alloc _)⟩ | exact ⟨Kept.setCell HKK.out (.inr (Nat.le_refl _)) _, CL.out _ (Kept.setCell HKK.out (.inr (Nat.le_refl _)) _)⟩ | go_keep)
      (first
        | (go_at_call 17; refine (each_any d _).mono ?_; rintro e wx ⟨rfl, rfl⟩)
        | (go_at_call 13; refine (MI.out _ (And.left (by assumption))).mono ?_; rintro e wx ⟨rfl, kx, ky⟩; have HKK := Lib.hid kx; have HKY := Lib.hid ky; clear kx; (try (have hq := ky.heap (World.alloc_heap_new _ _) id; have hq1 := cell_of (i := 0) hq; have hq2 := frozen_of (i := 0) hq; have HQ := Lib.hid hq; clear hq; simp only [List.getElem?_toArray, List.getElem?_cons_zero] at hq1)); clear ky))
    · exact ⟨rfl, rfl, rfl, rfl, rfl, rfl, And.left (by assumption), _, HKK.out.size, rfl, World.alloc_heap_new _ _⟩
    · exact ⟨rfl, rfl, rfl, rfl, rfl, rfl, And.left (by assumption), _, Nat.le_refl _, rfl, by first | exact heap_set HQ.out | exact HQ.out⟩
    · exact ⟨rfl, rfl, rfl, rfl, rfl, rfl, And.left (by assumption), _, Nat.le_refl _, rfl, by first | exact heap_set HQ.out | exact HQ.out⟩
  · rintro e ⟨tm, df⟩ w2 ⟨rfl, rfl, hs, e1, e4, e5, k12, p3, hp3, e3, b3⟩
    simp only at hs e1 e3 e4 e5
    obtain ⟨f, hf, hg⟩ := fr_open hs
    have g1 := hg _ _ e1
    have g3 := hg _ _ e3
    have g4 := hg _ _ e4
    have g5 := hg _ _ e5
    simp only [List.range, List.range.loop, List.map] at hf
    rw [g1, g3, g4, g5] at hf
    clear g1 g3 g4 g5 hg hs e1 e3 e4 e5
    subst hf
    have b1 := k12.heap HB2.out id
    have HC2 := HC1'.out.nix k12
    have k02 := nix_trans K2.out k12
    have hx3 : w2.cell? ⟨p3, 0, none⟩ = some (.int .i64 (eachN d : Int)) := by rw [cell_of b3]; rfl
    obtain ⟨hl1, hl8, hd4, hd32⟩ := kind_parts (chk_kind HK.out)
    obtain ⟨n1, n2, hn1, hn2, hw1, hw2, hw3, hN⟩ := len_facts (eachN_hi d) hl8 HM.out
    have hmk := make_bytes _ hN
    have HN := Lib.hid hN
    have HN1 := Lib.hid hn1
    have HN2 := Lib.hid hn2
    clear hN hn1 hn2
    gi_wp2_with (first
      | (refine ⟨trivial, ?_⟩; gi_at_call 30; refine (callsIn_wide.2 (places_any _ _ _)).mono ?_; rintro e w' ⟨rfl, rfl⟩))
    obtain ⟨own5, box5, hBc, hBm, k25, hsz⟩ := bytes_start w2 n2 L.length (manyN L) HN.out _ rfl
    generalize (((w2.alloc (.cells (madeCells #[.int .u8 0] n2) 5)).alloc (.cells #[.slice (some ⟨w2.heap.size, 0, none⟩) 0 n2] 33)).alloc (.cells #[.int .i64 (L.length : Int)] 3)).alloc (.cells #[.int .i64 (manyN L : Int)] 3) = w5 at *
    have hp1 := lt_of_heap b1
    have hp3' := lt_of_heap b3
    refine wpIn_rangeFunc_ownH (F := Fence.wide) rfl (by omega) (gf := 39) (lb := #[.pointer (some ⟨w2.heap.size + 1 + 1 + 1, 0, none⟩), .pointer (some ⟨w2.heap.size + 1 + 1, 0, none⟩)]) rfl trivial (enters_of Try.func39 (by kernel_rfl) rfl)
      (places_stops _ L.length (manyN L) (w2.heap.size + 1 + 1 + 1) (w2.heap.size + 1 + 1) (by omega) HM.out w5 hBm hBc) keepsBox_t (keepsBox_b (by omega)) (Below.refl _ _) (fun _ => rfl)
      (fun pre W => Kept Nix w2 W ∧ (W.heap[w2.heap.size + 1 + 1]? = some (.cells #[.int .i64 (L.length : Int)] 3 (0, 0)) ∧ ∃ v, Boxed W (w2.heap.size + 1) 33 v ∧ W.ownsRow w2.heap.size 5 1 v (pre.flatMap (fun x => sb (smp L x.val) (eachN d))).length (u8s (pre.flatMap (fun x => sb (smp L x.val) (eachN d)))) ∧ True))
      (fun _ _ _ => False)
      (OwnFrom.and (kept_ownFrom (by omega)) (OwnFrom.and heap_ownFrom (Own.from (holdsRow_own _ _ _ _ _ _ _ (fun _ _ => True)) _)))
      (fun c => ownFrom_pure _ (fun _ => False))
      ⟨k25, hBc, _, box5, own5, trivial⟩
      (fun x a' _ => a'.defers = [] ∧ a'.tmps.size = 52 ∧ a'.tmps[1]? = some (.pointer (some ⟨w.heap.size, 0, none⟩)) ∧ a'.tmps[3]? = some (.pointer (some ⟨p3, 0, none⟩)) ∧ a'.tmps[6]? = some (.pointer (some ⟨w2.heap.size + 1, 0, none⟩)) ∧ a'.tmps[7]? = some (.int .i64 ((x.val % L.length : Nat) : Int)) ∧ a'.tmps[8]? = some (.int .i64 ((x.val / L.length : Nat) : Int)))
      (fun x a' => ownFrom_pure _ (fun _ => _))
      ?assign ?body ?done ?stop
    case assign =>
      rintro l pre x W K hi hK
      simp only [place]
      gi_wp2
      exact hK _ _ (KeepsFrom.refl _ _) rfl hi ⟨rfl, rfl, rfl, rfl, rfl, rfl, rfl⟩
    case body =>
      rintro l pre x ⟨tm, df⟩ W hl0 _ ⟨hkW, hbc, v, hbx, hrow, _⟩ ⟨rfl, hs, e1, e3, e6, e7, e8⟩ hlen
      simp only at hs e1 e3 e6 e7 e8
      obtain ⟨f2, hf, hg⟩ := fr_open hs
      have g1 := hg _ _ e1
      have g3 := hg _ _ e3
      have g6 := hg _ _ e6
      have g7 := hg _ _ e7
      have g8 := hg _ _ e8
      simp only [List.range, List.range.loop, List.map] at hf
      rw [g1, g3, g6, g7, g8] at hf
      clear g1 g3 g6 g7 g8 hg hs e1 e3 e6 e7 e8
      subst hf
      obtain ⟨b, off, b', off', cc, rfl, hcl, hil, hx3', hx4'⟩ := smp_cells (HC2.nix hkW) (by omega) (chk_even HK.out) x.isLt
      have hx2' : W.cell? ⟨w.heap.size, 2, none⟩ = some (.slice (some ⟨b, off, none⟩) L.length cap) := by rw [cell_of (hkW.heap b1 id)]; rfl
      have hx5' : W.cell? ⟨p3, 0, none⟩ = some (.int .i64 (eachN d : Int)) := by rw [cell_of (hkW.heap b3 id)]; rfl
      have hr1 : ((x.val % L.length : Nat) : Int) < (L.length : Int) := by omega
      have hr2 : ((x.val / L.length : Nat) : Int) < (manyN L : Int) := by omega
      have hBL : (pre.flatMap (fun x => sb (smp L x.val) (eachN d))).length + 4 ≤ 140737488355320 := by
        rw [flat_len _ _ (eachN d) (fun _ => sb_length _ _)]
        have h1 := Nat.mul_le_mul (Nat.le_of_lt hlen) (eachN_hi d)
        have h2 := Nat.mul_le_mul (Nat.le_of_lt HM.out) hl8
        omega
      have HXV : ∃ z, (pre ++ [x]).flatMap (fun x => sb (smp L x.val) (eachN d)) = z ∧ z = pre.flatMap (fun x => sb (smp L x.val) (eachN d)) ++ sb (smp L x.val) (eachN d) := ⟨_, rfl, by simp⟩
      obtain ⟨Z, hZ, hZ2⟩ := HXV
      have he4 := eachN_hi d
      generalize hBB : pre.flatMap (fun x => sb (smp L x.val) (eachN d)) = BB at *
      generalize hxc : x.val % L.length = xc at *
      generalize hxi : x.val / L.length = xi at *
      generalize smp L x.val = sm at *
      have HZ := Lib.hid hZ
      have HZ2 := Lib.hid hZ2
      have HROW := Lib.hid hrow
      have HBX := Lib.hid hbx
      have HBC := Lib.hid hbc
      have HKW := Lib.hid hkW
      have HBL := Lib.hid hBL
      have HL0 := Lib.hid hl0
      clear hZ hZ2 hBB hxc hxi hrow hbx hbc hkW hBL hl0 hlen hcl hil
      gi_wp2
      refine wpIn_loop (BytesIn w.heap.size p3 (w2.heap.size + 1) (w2.heap.size + 1 + 1) sm (eachN d) L.length BB w2 W w5.heap.size) (fun a _ => eachN d - (intOf (a.tmps.getD 41 undef)).toNat) ?_ ?_
      · exact ⟨rfl, rfl, rfl, rfl, rfl, rfl, 0, Nat.zero_le _, rfl, by simp, HKW.out, KeepsFrom.refl _ _, HBC.out, v, HBX.out, by rw [sb, List.append_nil]; exact HROW.out⟩
      · clear HROW HBX HKW hx2' hx3' hx4' hx5'
        rintro ⟨tm, df⟩ W3 ⟨rfl, hs, e1, e3, e6, e40, j, hj, e41, e9, hk3, hkf, hbc3, v3, hbx3, hrow3⟩
        simp only at hs e1 e3 e6 e40 e41 e9
        obtain ⟨f3, hf, hg⟩ := fr_open hs
        have g1 := hg _ _ e1
        have g3 := hg _ _ e3
        have g6 := hg _ _ e6
        have g40 := hg _ _ e40
        have g41 := hg _ _ e41
        have g9 := hg _ _ e9
        simp only [List.range, List.range.loop, List.map] at hf
        rw [g1, g3, g6, g40, g41, g9] at hf
        clear g1 g3 g6 g40 g41 g9 hg hs e1 e3 e6 e40 e41 e9
        subst hf
        have HK3 := Lib.hid hk3
        have HKF := Lib.hid hkf
        have HBC3 := Lib.hid hbc3
        have HROW3 := Lib.hid hrow3
        have HBX3 := Lib.hid hbx3
        by_cases hlt : j < eachN d
        · have hd : decide ((j : Int) < (eachN d : Int)) = true := decide_eq_true (by omega)
          have hcx := hbx3.cell
          have hfx := hbx3.frozen
          have HJ := Lib.hid hlt
          have hlb : (BB ++ sb sm j).length + 1 ≤ 140737488355328 := by rw [List.length_append, sb_length]; have := HBL.out; omega
          obtain ⟨ao3, cap3, rfl, _, _⟩ := owns_shape hrow3
          generalize hSB : BB ++ sb sm j = SB at *
          have HSB := Lib.hid hSB
          have HLB := Lib.hid hlb
          clear hk3 hkf hbc3 hrow3 hbx3 hlt hj hSB hlb
          generalize hq : sm / 256 ^ j = q at *
          have HQ := Lib.hid hq
          obtain ⟨t, ht⟩ : ∃ t : Nat, q % 256 = (t : Int) := ⟨(q % 256).toNat, by omega⟩
          have HT := Lib.hid ht
          obtain ⟨i0, hi0, hz0, hzs, hzb⟩ := info_parts info_u8
          have HI0 := Lib.hid hi0
          have HZ0 := Lib.hid hz0
          have HZS := Lib.hid hzs
          have HZB := Lib.hid hzb
          clear hq hi0 hz0 hzs hzb
          gi_wp2_with (gi_at_builtin; refine wpListIn_append_own _ rfl _ _ 33 rfl w2.heap.size 5 i0 (.int .u8 0) 1 1 Try.underlying33 HI0.out HZ0.out HZS.out HZB.out rfl (by decide) _ _ _ rfl (HROW3.out.alloc _) ⟨W3.heap.size, 0, none⟩ 1 1 [.int .u8 (t : Int)] rfl rfl (cell_one_new _ _ _) (by simp [Value.oneCell']) (by have := HLB.out; simp [maxLen]; omega) (by have := HLB.out; omega) (by have := HK3.out.size; simp; omega) ?_
                       intro v' w9 hown' hgrow _; obtain ⟨g', cap', rfl⟩ := ownsRow_succ hown'
                       obtain ⟨hv1, hv2, hr2, hk2, hb2⟩ := HBX3.out.appended (by decide) HROW3.out HK3.out.size (by omega) hown' hgrow
                       have hc1 := hv1.cell
                       have hf1 := hv1.frozen
                       have hbc9 := ((Boxed.alloc (show Boxed W3 (w2.heap.size + 1 + 1) 3 (.int .i64 (L.length : Int)) from HBC3.out) (.cells #[.int .u8 (t : Int)] 5)).kept hgrow (Boxed.not_row (show Boxed W3 (w2.heap.size + 1 + 1) 3 (.int .i64 (L.length : Int)) from HBC3.out) (by decide) HROW3.out)).other (B' := w2.heap.size + 1) (by omega) (.slice (some ⟨g', 0, none⟩) (SB.length + 1) cap')
                       have HV2 := Lib.hid hv2
                       have HR2 := Lib.hid hr2
                       have HK9 := Lib.hid hk2
                       have HB9 := Lib.hid hb2
                       have HBC9 := Lib.hid hbc9
                       clear hv1 hv2 hr2 hk2 hb2 hown' hgrow hbc9)
          have hcons : BB ++ sb sm (j + 1) = SB ++ [t] := by
            rw [sb_snoc, ← List.append_assoc, HSB.out, HQ.out, HT.out]; rfl
          refine ⟨⟨rfl, rfl, rfl, rfl, rfl, rfl, j + 1, HJ.out, by simp, ?_, kept_below HK3.out HB9.out, HKF.out.trans (HK9.out.from _), HBC9.out, _, HV2.out, ?_⟩, ?_⟩
          · show some (Value.int IntKind.i64 (q / 256)) = some (Value.int IntKind.i64 (sm / 256 ^ (j + 1)))
            rw [← HQ.out, Int.pow_succ, Int.ediv_ediv_of_nonneg (Int.le_of_lt (Int.pow_pos (by omega)))]
          · rw [hcons, ← u8s_snoc, List.length_append]
            exact HR2.out
          · have := HJ.out
            simp [intOf]
            omega
        · have hd : decide ((j : Int) < (eachN d : Int)) = false := decide_eq_false (by omega)
          have hje : j = eachN d := by omega
          subst hje
          clear hk3 hkf hbc3 hrow3 hbx3 hlt hj
          gi_wp2
          exact ⟨HKF.out, (HBC3.out).trans HBC.out.symm, HK3.out, HBC3.out, v3, HBX3.out, by rw [HZ.out, HZ2.out]; exact HROW3.out, trivial⟩
    case done =>
      rintro D xs W hD rfl ⟨hkW, hbc, v, hbx, hrow, _⟩ hK
      have hcx := hbx.cell
      have e0 : (upto (manyN L * L.length) (manyN L * L.length)).flatMap (fun x => sb (smp L x.val) (eachN d)) = bytesOf L d := upto_flat _ _ (Nat.le_refl _) (fun x => sb (smp L x) (eachN d))
      rw [e0] at hrow
      have HROW := Lib.hid hrow
      have HKW := Lib.hid hkW
      obtain ⟨ao3, cap3, rfl, _, _⟩ := owns_shape hrow
      clear hrow hkW hbc hbx e0
      gi_wp2
      refine ⟨by simp, .inl ⟨_, _, rfl, run_takeDeferred hK, ?_⟩⟩
      exact ⟨_, results_tmp rfl _ _ _, _, rfl, sl_of_owns (ownsRow_putObj HROW.out _ hK rfl), (nix_trans k02 HKW.out).putObj _ (by have := k02.size; omega)⟩
    case stop =>
      rintro D c pre W hD hpre h hK
      exact h.elim

theorem bytes_any (r d : Int) (v : Value) (L : List (List Int)) (w : World) (h : Chs w v L) (hM : manyN L < 1099511627776) :
    Calls Try.prog 23 #[.agg #[.int .i64 r, .int .i64 d, v]] w fun e w' => ∃ u, e = .returned u ∧ Sl w' u (u8s (if chkE r d L = 0 then bytesOf L d else [])) ∧ Kept Nix w w' := by
  by_cases hk : chkE r d L = 0
  · rw [if_pos hk]
    exact bytes_good r d v L w h hM hk
  · rw [if_neg hk]
    exact (bytes_bad r d v L w h hM hk).mono fun e w' ⟨h1, h2⟩ => ⟨_, h1, ⟨none, 0, rfl, Nat.le_refl _, by simp [maxLen], fun _ => rfl, fun h => by simp [u8s] at h⟩, h2⟩

end Go.Proofs.Ytpiongdkfebchaa
