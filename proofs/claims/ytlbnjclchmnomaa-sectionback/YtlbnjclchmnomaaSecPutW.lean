/- Package section: Put, the walk. -/
import Derived.Test.YtlbnjclchmnomaaSecPut
import Derived.Test.YtlbnjclchmnomaaRoundAny
namespace Go.Proofs.Ytlbnjclchmnomaa
open Go.RowKit Go.Shelf Bx
attribute [local go_sem] Oper.semAt_some

theorem sput_start (w : World) (p : Nat) (wd : Bool) (o : Int) (uo : Option Addr) (un uc : Nat) : ∀ w1, w1 = (w.alloc (.cells #[.pointer (some ⟨p, 0, none⟩)] 29)).alloc (.cells #[.bool wd, .int .i64 o, .slice uo un uc] 25) →
    w1.heap[w.heap.size]? = some (.cells #[.pointer (some ⟨p, 0, none⟩)] 29 (0, 0)) ∧ w1.heap[w.heap.size + 1]? = some (.cells #[.bool wd, .int .i64 o, .slice uo un uc] 25 (0, 0)) ∧ Kept Nix w w1 ∧ w1.heap.size = w.heap.size + 2 := by
  rintro w1 rfl
  exact ⟨(Below.heap_alloc _ _ _ (by simp)).trans (heap_alloc_new _ _), heap_new (by simp), ((Kept.refl _ w).alloc _).alloc _, by simp⟩

theorem two_ints (w : World) (lo : Option Addr) (ln lc : Nat) (co : Option Addr) (cn cc : Nat) : ∀ w1, w1 = (w.alloc (.cells #[.slice lo ln lc] 22)).alloc (.cells #[.slice co cn cc] 22) →
    w1.heap[w.heap.size]? = some (.cells #[.slice lo ln lc] 22 (0, 0)) ∧ w1.heap[w.heap.size + 1]? = some (.cells #[.slice co cn cc] 22 (0, 0)) ∧ Kept Nix w w1 ∧ w1.heap.size = w.heap.size + 2 := by
  rintro w1 rfl
  exact ⟨(Below.heap_alloc _ _ _ (by simp)).trans (heap_alloc_new _ _), heap_new (by simp), ((Kept.refl _ w).alloc _).alloc _, by simp⟩

theorem nix_only {p : Nat} {v : Value} {a b : World} (h : Kept Nix a b) : Kept (Only p v) a b := h.mono (fun _ h => absurd h id)

theorem Kept.only_trans {p : Nat} {v v1 : Value} {w w1 w2 : World} (hk : Kept (Only p v) w w1) (hv : v1.ownBlock = v.ownBlock ∨ ∃ k, v1.ownBlock = some k ∧ w.heap.size ≤ k) (h : Kept (Only p v1) w1 w2) : Kept (Only p v) w w2 :=
  hk.trans h (fun _ h => h) (fun j hj e => by
    rcases e with e | e
    · exact .inl e
    · rcases hv with h | ⟨k, h, h2⟩
      · exact .inr (h ▸ e)
      · rw [h] at e; simp only [Option.some.injEq] at e; omega)

/-- A put that lays nothing. -/
theorem putPost_same {base p : Nat} {v : Value} {X : List Bool} {w w' : World} (h : Wr base w p v (num X) X.length (pad X.length)) (hk : Kept Nix w w') : PutPost base w p v (num (X ++ [])) (X ++ []).length w' := by
  rw [List.append_nil]
  exact ⟨v, h.kept hk (fun h => h) (fun _ _ h => h), nix_only hk, .inl rfl⟩

set_option maxRecDepth 10000 in
set_option maxHeartbeats 4000000 in
theorem sput_any (base p : Nat) (v : Value) (X : List Bool) (lv : Value) (L : List Int) (k : Int) (wd : Bool) (o : Int) (uv : Value) (ps : List (Int × Bool)) (w : World) (h : Wr base w p v (num X) X.length (pad X.length))
    (hl : ∀ w', Kept (Only p v) w w' → Sl w' lv (ivs L)) (hu : ∀ w', Kept (Only p v) w w' → Pts w' uv ps) (hll : L.length ≤ 1048576) (hk : k ≤ 1099511627776) (hx : X.length ≤ 100000000000) (hb : base ≤ w.heap.size) :
    Calls Try.prog 9 #[.pointer (some ⟨p, 0, none⟩), lv, .int .i64 k, .agg #[.bool wd, .int .i64 o, uv]] w fun e w' => e = .returned (.int .i64 (spE L k wd o ps)) ∧ PutPost base w p v (num (X ++ spB L k wd o ps)) (X ++ spB L k wd o ps).length w' := by
  obtain ⟨lo, lc, rfl, hlc, hlm, -⟩ := (hl w (Kept.refl _ _)).ints
  obtain ⟨uo, uc, rfl, -⟩ := (hu w (Kept.refl _ _)).len
  obtain ⟨b4, b7, k1, sz1⟩ := sput_start w p wd o uo ps.length uc _ rfl
  have B4 := Lib.hid b4
  have B7 := Lib.hid b7
  have K1 := Lib.hid k1
  have SZ1 := Lib.hid sz1
  have HW := Lib.hid h
  have HL := Lib.hid hl
  have HU := Lib.hid hu
  have HLL := Lib.hid hll
  have HLC := Lib.hid (And.intro hlc hlm)
  have HX := Lib.hid hx
  have HB := Lib.hid hb
  have PB := Lib.hid (pbits_any (.slice lo L.length lc) L k o wd (.slice uo ps.length uc) ps _ (hl _ (nix_only k1)) (hu _ (nix_only k1)) hll hk)
  have CU := Lib.hid (fun w' => pcuts_any L.length k o w' hll hk)
  unfold CutsPost at CU
  clear b4 b7 k1 sz1 h hl hu hx hb hlc hlm hk
  by_cases hpb : pbits (pcz L (ctI L.length k o)) ps (wM wd) (wA wd) < 0
  · obtain ⟨q1, q2⟩ := spE_bad hpb
    rw [q1, q2]
    have t1 : decide (pbits (pcz L (ctI L.length k o)) ps (wM wd) (wA wd) < 0) = true := decide_eq_true hpb
    clear q1 q2 hpb hll CU
    generalize pbits (pcz L (ctI L.length k o)) ps (wM wd) (wA wd) = N at *
    generalize hgL : L.length = n at *
    go_enter Try.func9, Try.ntmps9
    go_upto_region 1 with fail
    generalize (w.alloc (.cells #[.pointer (some ⟨p, 0, none⟩)] 29)).alloc (.cells #[.bool wd, .int .i64 o, .slice uo ps.length uc] 25) = w1 at *
    obtain ⟨x0, x1, x2⟩ := cells_three B7.out
    go_wp2_with (go_at_call 10; refine PB.out.mono ?_; rintro e w2 ⟨rfl, k2⟩; have K2 := Lib.hid (nix_trans K1.out k2); clear k2)
    go_ret
    exact ⟨rfl, putPost_same HW.out K2.out⟩
  have t1 : decide (pbits (pcz L (ctI L.length k o)) ps (wM wd) (wA wd) < 0) = false := decide_eq_false hpb
  have PO := pbits_ok hpb
  rw [pcz_length] at PO
  have HPO := Lib.hid PO
  have TLH := Lib.hid (fun lv' cv uv' w' (h1 : Sl w' lv' (ivs L)) (h2 : Sl w' cv (ivs (ni (ctI L.length k o)))) (h3 : Pts w' uv' ps) => tlong_any lv' L (ctI L.length k o) cv uv' ps (wM wd) w' h1 h2 h3 (ctI_sum_le _ _ _) PO.2.1 (by cases wd <;> decide) PO.2.2 hll)
  cases hlg : lngs (pcz L (ctI L.length k o)) ps with
  | true =>
    obtain ⟨q1, q2⟩ := spE_long hpb hlg
    rw [q1, q2]
    rw [hlg] at TLH
    clear q1 q2 hpb hll PO
    generalize pbits (pcz L (ctI L.length k o)) ps (wM wd) (wA wd) = N at *
    go_enter Try.func9, Try.ntmps9
    go_upto_region 1 with fail
    generalize (w.alloc (.cells #[.pointer (some ⟨p, 0, none⟩)] 29)).alloc (.cells #[.bool wd, .int .i64 o, .slice uo ps.length uc] 25) = w1 at *
    obtain ⟨x0, x1, x2⟩ := cells_three B7.out
    go_upto_region 3 with (go_at_call 10; refine PB.out.mono ?_; rintro e w2 ⟨rfl, k2⟩; have K2 := Lib.hid k2; clear k2)
    clear x0 x1 x2
    obtain ⟨x0, x1, x2⟩ := cells_three (K2.out.heap B7.out id)
    go_upto_region 4 with (go_at_call 23; refine (CU.out _).mono ?_; rintro e w3 ⟨cv, rfl, o3, k3⟩; have K3 := Lib.hid (nix_trans K2.out k3); have O3 := Lib.hid o3; clear k3 o3)
    obtain ⟨co, cc, rfl, -⟩ := owns_shape O3.out
    clear x0 x1 x2
    obtain ⟨x0, x1, x2⟩ := cells_three (K3.out.heap B7.out id)
    have K03 := Lib.hid (nix_trans K1.out K3.out)
    have T3 := Lib.hid (TLH.out (.slice lo L.length lc) (.slice co (ctI L.length k o).length cc) (.slice uo ps.length uc) w3 (HL.out _ (nix_only K03.out)) (sl_of_owns O3.out) (HU.out _ (nix_only K03.out)))
    go_wp2_with (go_at_call 24; refine T3.out.mono ?_; rintro e w4 ⟨rfl, k4⟩; have K4 := Lib.hid (nix_trans K03.out k4); clear k4)
    go_ret
    exact ⟨rfl, putPost_same HW.out K4.out⟩
  | false =>
    obtain ⟨q1, q2⟩ := spE_good hpb hlg
    rw [q1, q2]
    rw [hlg] at TLH
    obtain ⟨pf1, pf2, pf3, m, pf4, pf5⟩ := put_facts hll hpb hlg
    obtain ⟨c1, c2, c3⟩ := ctI_ok PO.1
    obtain ⟨O, rfl⟩ : ∃ O : Nat, o = (O : Int) := ⟨o.toNat, by omega⟩
    have CS := Lib.hid (ctI_sum_le L.length k (O : Int))
    unfold secB
    rw [Int.toNat_natCast, pcz_length]
    have PF1 := Lib.hid pf1
    have PF4 := Lib.hid (And.intro pf2 (And.intro pf3 (And.intro pf4 pf5)))
    have PA := Lib.hid (fun w' uo un uc (h : Wr base w' p v (num X) X.length (pad X.length)) hb => pahead_any base p v X wd O uo un uc w' h (by have := HX.out; omega) hb (by omega))
    have HYL := Lib.hid (show (X ++ hdb wd O).length = X.length + 6 by simp [hdb, dg_length])
    have HAS := Lib.hid (show X ++ (hdb wd O ++ (List.range (ctI L.length k (O : Int)).length).flatMap (pti wd (pcz L (ctI L.length k (O : Int))) ps)) = (X ++ hdb wd O) ++ (List.range (ctI L.length k (O : Int)).length).flatMap (pti wd (pcz L (ctI L.length k (O : Int))) ps) by rw [List.append_assoc])
    rw [HAS.out]
    generalize X ++ hdb wd O = Y at *
    clear q1 q2 hpb hll PO hlg pf1 pf2 pf3 pf4 pf5 c1 c2 c3 HAS
    generalize pbits (pcz L (ctI L.length k (O : Int))) ps (wM wd) (wA wd) = N at *
    generalize ctI L.length k (O : Int) = C at *
    refine (callsIn_wide (n := 3)).1 ?_
    refine callsIn_of_wp_marks Try.func9 rfl trivial ?_ rfl
    simp only [Try.ntmps9, List.size_toArray, List.length_cons, List.length_nil, Nat.reduceAdd, Nat.reduceSub, Array.replicate_succ, Array.replicate_zero, List.push_toArray, List.append_toArray, List.nil_append, List.cons_append]
    refine wpIn_wide.2 ?_
    go_upto_region 1 with fail
    generalize (w.alloc (.cells #[.pointer (some ⟨p, 0, none⟩)] 29)).alloc (.cells #[.bool wd, .int .i64 (O : Int), .slice uo ps.length uc] 25) = w1 at *
    obtain ⟨x0, x1, x2⟩ := cells_three B7.out
    go_upto_region 3 with (go_at_call 10; refine PB.out.mono ?_; rintro e w2 ⟨rfl, k2⟩; have K2 := Lib.hid k2; clear k2)
    clear x0 x1 x2
    obtain ⟨x0, x1, x2⟩ := cells_three (K2.out.heap B7.out id)
    go_upto_region 4 with (go_at_call 23; refine (CU.out _).mono ?_; rintro e w3 ⟨cv, rfl, o3, k3⟩; have K3 := Lib.hid (nix_trans K2.out k3); have O3 := Lib.hid o3; clear k3 o3)
    obtain ⟨co, cc, rfl, -⟩ := owns_shape O3.out
    clear x0 x1 x2
    obtain ⟨x0, x1, x2⟩ := cells_three (K3.out.heap B7.out id)
    have K03 := Lib.hid (nix_trans K1.out K3.out)
    have T3 := Lib.hid (TLH.out (.slice lo L.length lc) (.slice co C.length cc) (.slice uo ps.length uc) w3 (HL.out _ (nix_only K03.out)) (sl_of_owns O3.out) (HU.out _ (nix_only K03.out)))
    clear TLH PB CU
    go_upto_region 6 with (go_at_call 24; refine T3.out.mono ?_; rintro e w4 ⟨rfl, k4⟩; have K4 := Lib.hid (nix_trans K3.out k4); have K34 := Lib.hid k4; clear k4 T3)
    clear x0 x1 x2
    obtain ⟨x0, x1, x2⟩ := cells_three (K4.out.heap B7.out id)
    have y0 : w4.cell? ⟨w.heap.size, 0, none⟩ = some (.pointer (some ⟨p, 0, none⟩)) := by rw [cell_of (K4.out.heap B4.out id)]; rfl
    have K04 := Lib.hid (nix_trans K1.out K4.out)
    have PA4 := Lib.hid (PA.out w4 uo ps.length uc (HW.out.kept K04.out (fun h => h) (fun _ _ h => h)) (Nat.le_trans HB.out K04.out.size))
    clear PA
    go_upto_region 7 with (go_at_call 25; refine PA4.out.mono ?_; rintro e w5 ⟨rfl, p5⟩; clear PA4)
    clear x0 x1 x2 y0
    obtain ⟨v5, r5, k5, n5⟩ := p5.wr
    have HNO := Lib.hid (show ∀ g, w.heap.size ≤ g → ¬ Only p v g from fun g hg e => by
      rcases e with e | e
      · have := HW.out.lt; omega
      · have := (HW.out.own e).2; omega)
    have HN5 := Lib.hid (show ∀ g, w.heap.size ≤ g → g < w4.heap.size → ¬ Only p v5 g from fun g hg hg4 e => by
      rcases e with e | e
      · have := HW.out.lt; omega
      · rcases n5 with h | ⟨k', h, h2⟩
        · rw [h] at e; have := (HW.out.own e).2; omega
        · rw [h] at e; simp only [Option.some.injEq] at e; omega)
    have HN6 := Lib.hid (show ∀ g, w5.heap.size ≤ g → ¬ Only p v5 g from fun g hg e => by
      rcases e with e | e
      · have := r5.lt; omega
      · have := (r5.own e).2; omega)
    go_wp2_with (go_at_call 26; refine (pieces_any _ _ _ _ _ _ _).mono ?_; rintro e w' ⟨rfl, rfl⟩)
    obtain ⟨bl, bc, k56, sz6⟩ := two_ints w5 lo L.length lc co C.length cc _ rfl
    generalize (w5.alloc (.cells #[.slice lo L.length lc] 22)).alloc (.cells #[.slice co C.length cc] 22) = w6 at *
    have k46 : Kept (Only p v) w4 w6 := k5.trans k56 (fun _ h => h) (fun _ _ h => absurd h id)
    have k06 : Kept (Only p v) w w6 := K04.out.trans k46 (fun _ h => absurd h id) (fun _ _ h => h)
    have K06 := Lib.hid k06
    have N5 := Lib.hid (show v5.ownBlock = v.ownBlock ∨ ∃ k', v5.ownBlock = some k' ∧ w.heap.size ≤ k' from n5.imp id (fun ⟨k', h1, h2⟩ => ⟨k', h1, Nat.le_trans K04.out.size h2⟩))
    have R6 := Lib.hid (r5.kept k56 (fun h => h) (fun _ _ h => h))
    have s04 := K04.out.size
    have s14 := K4.out.size
    have hs1 := SZ1.out
    have s45 := k5.size
    have HB4 := Lib.hid (k46.heap (K4.out.heap B4.out id) (HNO.out _ (Nat.le_refl _)))
    have HB7 := Lib.hid (k46.heap (K4.out.heap B7.out id) (HNO.out _ (by omega)))
    have HCV := Lib.hid ((sl_of_owns O3.out).nix K34.out |>.sameOwn (W := w6) (fun g hg => by
      have h1 := O3.out.lt g hg
      have h2 := K2.out.size
      have h3 := K34.out.size
      exact k46.block g (by omega) (HNO.out g (by omega))))
    have HCO := Lib.hid (show ∀ g, Own (.slice co C.length cc) g → w.heap.size ≤ g ∧ g < w4.heap.size from fun g hg => by
      have h1 := O3.out.lt g hg
      have h2 := K2.out.size
      have h3 := K34.out.size
      omega)
    have SN5 : ∀ g, (g = w5.heap.size + 1 ∨ g = w5.heap.size ∨ Own (.slice co C.length cc) g) → g < w6.heap.size ∧ ¬ Only p v5 g := fun g hg => by
      rcases hg with rfl | rfl | hg
      · exact ⟨by omega, HN6.out _ (by omega)⟩
      · exact ⟨by omega, HN6.out _ (Nat.le_refl _)⟩
      · have := HCO.out g hg
        exact ⟨by omega, HN5.out g this.1 this.2⟩
    have SNH := Lib.hid SN5
    have H7N := Lib.hid (And.intro (HN5.out w.heap.size (Nat.le_refl _) (by omega)) (HN5.out (w.heap.size + 1) (by omega) (by omega)))
    clear k5 n5 r5 p5 k46 k06 s45 s14 hs1 HN5 HN6 K4 K34 K3 K2 O3 K03 HNO
    refine (wpIn_wide (n := 3)).1 ?_
    refine wpIn_rangeFunc_ownH (F := Fence.wide) rfl (by omega) (gf := 46) (lb := #[.pointer (some ⟨w5.heap.size + 1, 0, none⟩), .pointer (some ⟨w5.heap.size, 0, none⟩)]) rfl trivial (enters_of Try.func46 (by kernel_rfl) rfl)
      (pieces_stops _ C lo L.length lc co cc (w5.heap.size + 1) w5.heap.size (fun g => g = w5.heap.size + 1 ∨ g = w5.heap.size ∨ Own (.slice co C.length cc) g) w6 bc bl
        (fun W hW => HCV.out.sameOwn (fun g hg => hW g (.inr (.inr hg)))) (.inl rfl) (.inr (.inl rfl)) (fun g hg => (SN5 g hg).1) (by have := CS.out; have := HLC.out; omega) HLC.out.2) keepsAll_t (keepsAll_b (fun g hg => (SN5 g hg).1)) (Below.refl _ _) (fun _ => rfl)
      (fun pre W => PutPost base w6 p v5 (num (Y ++ pre.flatMap (fun x => pti wd (pcz L C) ps x.val))) (Y ++ pre.flatMap (fun x => pti wd (pcz L C) ps x.val)).length W)
      (fun _ _ _ => False)
      (putPost_ownFrom (Nat.le_refl _))
      (fun c => ownFrom_pure _ (fun _ => False))
      ⟨v5, by rw [List.flatMap_nil, List.append_nil]; exact R6.out, Kept.refl _ _, .inl rfl⟩
      (fun x a' _ => a'.defers = [] ∧ a'.tmps.size = 46 ∧ a'.tmps[4]? = some (.pointer (some ⟨w.heap.size, 0, none⟩)) ∧ a'.tmps[7]? = some (.pointer (some ⟨w.heap.size + 1, 0, none⟩)) ∧ a'.tmps[10]? = some (.int .i64 (x.val : Int)) ∧ a'.tmps[11]? = some (winV lo lc (C.take x.val).sum (C.take (x.val + 1)).sum))
      (fun x a' => ownFrom_pure _ (fun _ => _))
      ?assign ?body ?done ?stop
    case assign =>
      rintro l pre x W K hi hK
      simp only [wenc]
      gi_wp2
      exact hK _ _ (KeepsFrom.refl _ _) (fun _ _ => rfl) hi ⟨rfl, rfl, rfl, rfl, rfl, rfl⟩
    case body =>
      rintro l pre x ⟨tm, df⟩ W hl0 _ hp ⟨rfl, hs, e4, e7, e10, e11⟩ hlen
      simp only at hs e4 e7 e10 e11
      obtain ⟨f2, hf, hg⟩ := fr_open hs
      have g4 := hg _ _ e4
      have g7 := hg _ _ e7
      have g10 := hg _ _ e10
      have g11 := hg _ _ e11
      simp only [List.range, List.range.loop, List.map] at hf
      rw [g4, g7, g10, g11] at hf
      clear g4 g7 g10 g11 hg hs e4 e7 e10 e11
      subst hf
      have hxl := x.isLt
      have hxp : x.val < ps.length := by have := PF4.out.1; omega
      obtain ⟨vW, rW, kW, nW⟩ := hp.wr
      have kWw : Kept (Only p v) w W := by
        obtain ⟨_, _, h, _⟩ := PutPost.trans K06.out N5.out hp
        exact h
      have hB4 := kW.heap HB4.out H7N.out.1
      have hB7 := kW.heap HB7.out H7N.out.2
      have hmx : Try.prog.follows .mixedOrders = true := by kernel_rfl
      have y0 : W.drew.cell? ⟨w.heap.size, 0, none⟩ = some (.pointer (some ⟨p, 0, none⟩)) := by rw [show W.drew.cell? ⟨w.heap.size, 0, none⟩ = W.cell? ⟨w.heap.size, 0, none⟩ from rfl, cell_of hB4]; rfl
      obtain ⟨x0, -, x2⟩ := cells_three (show W.drew.heap[w.heap.size + 1]? = _ from hB7)
      obtain ⟨b1, o1, rfl, hc1⟩ := (HU.out W kWw).at x.val hxp
      obtain ⟨z1, z2⟩ := hc1 W.drew (Kept.refl _ _).drew
      have hr1 : (x.val : Int) < (ps.length : Int) := by omega
      have hok := PF1.out x.val hxl
      have hkt : ∀ w', Kept (Only p vW) W.drew w' → Kept (Only p v) w w' := fun w' h => by
        exact K06.out.only_trans N5.out (kW.only_trans nW h.undrew)
      have hfm : (pre.flatMap (fun x => pti wd (pcz L C) ps x.val)).length ≤ pre.length * m := flat_max pre (fun y _ => by
        have h1 := ptb_len (wd := wd) (PF1.out y.val y.isLt)
        have h2 := PF4.out.2.2.1 y.val y.isLt
        exact Nat.le_trans h1 h2)
      have hmm : pre.length * m ≤ C.length * m := Nat.mul_le_mul_right _ (Nat.le_of_lt hlen)
      have hq2 := PF4.out.2.2.1 x.val hxl
      have hm1 : m ≤ C.length * m := Nat.le_mul_of_pos_left _ (by omega)
      have hbound : (Y ++ pre.flatMap (fun x => pti wd (pcz L C) ps x.val)).length + 10 + ((pcz L C).getD x.val []).length * 65567 < 1000000000000 := by
        have := HYL.out; have := HX.out; have := PF4.out.2.2.2
        rw [List.length_append]; omega
      have PP := Lib.hid (ppart_any base p vW (Y ++ pre.flatMap (fun x => pti wd (pcz L C) ps x.val)) wd (winV lo lc (C.take x.val).sum (C.take (x.val + 1)).sum) ((pcz L C).getD x.val []) (ps.getD x.val (0, false)).1 (ps.getD x.val (0, false)).2 W.drew rW (fun w' h => win_sl (HL.out w' (hkt w' h)) C CS.out x.val hxl) hok hbound (by have h1 := HB.out; have h2 := kWw.size; exact Nat.le_trans h1 h2))
      have HSN := Lib.hid (show ∀ w', Kept (Only p vW) W w' → KeepsAll (fun g => g = w5.heap.size + 1 ∨ g = w5.heap.size ∨ Own (.slice co C.length cc) g) W w' from fun w' h g hg => by
        have h1 := SNH.out g hg
        refine h.block g (Nat.lt_of_lt_of_le h1.1 kW.size) (fun e => ?_)
        rcases e with e | e
        · exact h1.2 (.inl e)
        · rcases nW with h2 | ⟨k', h2, h3⟩
          · exact h1.2 (.inr (h2 ▸ e))
          · rw [h2] at e; simp only [Option.some.injEq] at e; omega)
      have HNX := Lib.hid (show (pre ++ [x]).flatMap (fun x => pti wd (pcz L C) ps x.val) = pre.flatMap (fun x => pti wd (pcz L C) ps x.val) ++ ptb wd ((pcz L C).getD x.val []) (ps.getD x.val (0, false)) by rw [List.flatMap_append]; simp [pti])
      have KW := Lib.hid kW
      have RW := Lib.hid rW
      have NW := Lib.hid nW
      have HFIN := Lib.hid (show ∀ w', PutPost base W.drew p vW (num ((Y ++ pre.flatMap (fun x => pti wd (pcz L C) ps x.val)) ++ ptb wd ((pcz L C).getD x.val []) (ps.getD x.val (0, false)))) ((Y ++ pre.flatMap (fun x => pti wd (pcz L C) ps x.val)) ++ ptb wd ((pcz L C).getD x.val []) (ps.getD x.val (0, false))).length w' →
          KeepsFrom w6.heap.size W w' ∧ KeepsAll (fun g => g = w5.heap.size + 1 ∨ g = w5.heap.size ∨ Own (.slice co C.length cc) g) W w' ∧ PutPost base w6 p v5 (num (Y ++ (pre ++ [x]).flatMap (fun x => pti wd (pcz L C) ps x.val))) (Y ++ (pre ++ [x]).flatMap (fun x => pti wd (pcz L C) ps x.val)).length w' from fun w' h => by
        rw [HNX.out, ← List.append_assoc]
        obtain ⟨v9, r9, k9, n9⟩ := h
        exact ⟨RW.out.keepsFrom k9.undrew _, HSN.out w' k9.undrew, PutPost.trans KW.out NW.out ⟨v9, r9, k9.undrew, n9⟩⟩)
      clear HSN HNX hbound hm1 hq2 hmm hfm hkt hok hB4 hB7 kWw hc1 hp hlen hl0 kW rW nW
      unfold winV at PP ⊢
      generalize (if lc = (C.take x.val).sum then lo else lo.map (fun z => z.add (C.take x.val).sum)) = vo at *
      generalize (C.take (x.val + 1)).sum - (C.take x.val).sum = vn at *
      generalize lc - (C.take x.val).sum = vcc at *
      generalize (pcz L C).getD x.val [] = Q at *
      generalize ps.getD x.val (0, false) = kr at *
      obtain ⟨kk1, rr1⟩ := kr
      simp only at z1 z2 PP
      obtain ⟨Z, hZ⟩ : ∃ Z, (Y ++ pre.flatMap (fun x => pti wd (pcz L C) ps x.val)) ++ ptb wd Q (kk1, rr1) = Z := ⟨_, rfl⟩
      rw [hZ] at PP HFIN
      clear hZ
      gi_wp2
      refine wpIn_mono (Q := fun e _ w' => match e with | .normal => PutPost base W.drew p vW (num Z) Z.length w' | _ => False) ?_ ?_
      · refine round_tail 9 (by kernel_rfl) (fun ⟨_, _, h⟩ => h) (by kernel_rfl) (by kernel_rfl) ?_
        simp only [List.take_succ_cons, List.take_zero, List.drop_succ_cons, List.drop_zero]
        repeat still_step
        try refine wpStill_nil ?_
        change wpList _ _ _ _ _ W.drew
        go_wp2_with (go_at_call 27; refine PP.out.mono ?_; rintro e w' ⟨rfl, pp⟩)
      · intro e a' w' h
        cases e with
        | normal => exact HFIN.out w' h
        | _ => exact h.elim
    case done =>
      rintro D xs W hD rfl hp hK
      have e0 : (upto C.length C.length).flatMap (fun x => pti wd (pcz L C) ps x.val) = (List.range C.length).flatMap (pti wd (pcz L C) ps) := by
        rw [List.flatMap_def, List.flatMap_def, upto_map _ _ (Nat.le_refl _) (fun x => pti wd (pcz L C) ps x)]
      rw [e0] at hp
      have HP2 := Lib.hid (show PutPost base w p v (num (Y ++ (List.range C.length).flatMap (pti wd (pcz L C) ps))) (Y ++ (List.range C.length).flatMap (pti wd (pcz L C) ps)).length (W.putObj D (.deferred none)) from
        PutPost.trans K06.out N5.out (putPost_ownFrom (β := Unit) (B := w6.heap.size) (N := fun _ => num (Y ++ (List.range C.length).flatMap (pti wd (pcz L C) ps))) (c := fun _ => (Y ++ (List.range C.length).flatMap (pti wd (pcz L C) ps)).length) (Nat.le_refl _) () _ _ _ hp (grownBy_putObj' W D (.deferred none)) (fun g e' => by cases e'; exact ⟨hD, _, hK, rfl⟩)))
      clear hp e0
      go_wp2
      refine ⟨by simp, .inl ⟨_, _, rfl, run_takeDeferred hK, ?_⟩⟩
      exact ⟨_, results_tmp rfl _ _ _, rfl, HP2.out⟩
    case stop =>
      rintro D c pre W hD hpre h hK
      exact h.elim

end Go.Proofs.Ytlbnjclchmnomaa
