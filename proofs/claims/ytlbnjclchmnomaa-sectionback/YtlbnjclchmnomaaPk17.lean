/- Plans in memory: a slice of parts, wherever it lies; a plan as a whole, as a result beside numbers, put into a variable. Package parts: Bits. -/
import Derived.Test.YtlbnjclchmnomaaPk14
import Derived.Test.YtlbnjclchmnomaaPk16

namespace Go.Proofs.Ytlbnjclchmnomaa
open Go.RowKit Bx

/-- A slice of parts that reads as this list. -/
def Pts (w : World) (v : Value) (ps : List (Int × Bool)) : Prop :=
  ∃ (ao : Option Addr) (cap : Nat), v = .slice ao ps.length cap ∧ ps.length ≤ cap ∧ cap ≤ maxLen ∧
    (0 < ps.length → ∃ b off, ao = some ⟨b, off, none⟩ ∧ b < w.heap.size ∧ ∀ j, j < ps.length → w.cell? ⟨b, off + j * 2, none⟩ = some (.int .i64 (ps.getD j (0, false)).1) ∧ w.cell? ⟨b, off + j * 2 + 1, none⟩ = some (.bool (ps.getD j (0, false)).2))

theorem Pts.nix {w w' : World} {v : Value} {ps : List (Int × Bool)} (h : Pts w v ps) (hk : Kept Nix w w') : Pts w' v ps := by
  obtain ⟨ao, cap, e, h1, h2, h3⟩ := h
  refine ⟨ao, cap, e, h1, h2, fun h0 => ?_⟩
  obtain ⟨b, off, e2, hb, hc⟩ := h3 h0
  have hbl := hk.block b hb id
  exact ⟨b, off, e2, Nat.lt_of_lt_of_le hb hk.size, fun j hj => ⟨(World.cell?_of_block hbl).trans (hc j hj).1, (World.cell?_of_block hbl).trans (hc j hj).2⟩⟩

theorem pts_of_owns {w : World} {base : Nat} {v : Value} {ps : List (Int × Bool)} (h : w.ownsRow base 50 2 v ps.length (pcs ps)) : Pts w v ps := by
  by_cases h0 : ps.length = 0
  · rcases h.2 with ⟨rfl, _⟩ | ⟨g, cap, cur, rfl, hb, hg, hc, hm, -⟩
    · exact ⟨none, 0, by rw [h0], by omega, by simp [maxLen], fun h => by omega⟩
    · exact ⟨_, cap, rfl, hc, hm, fun h => by omega⟩
  · obtain ⟨b, cap, rfl, hc1, hcm, hbb, -⟩ := owns_pos h (by omega)
    have hlt := (h.lt b rfl).2
    exact ⟨_, cap, rfl, hc1, hcm, fun _ => ⟨b, 0, rfl, hlt, fun j hj => by rw [Nat.zero_add]; exact part_in h j hj w (Kept.refl _ _)⟩⟩

theorem Pts.len {w : World} {v : Value} {ps : List (Int × Bool)} (h : Pts w v ps) : ∃ ao cap, v = .slice ao ps.length cap ∧ Pts w (.slice ao ps.length cap) ps := by
  obtain ⟨ao, cap, rfl, h1⟩ := h
  exact ⟨ao, cap, rfl, ao, cap, rfl, h1⟩

theorem Pts.at {w : World} {ao : Option Addr} {n cap : Nat} {ps : List (Int × Bool)} (h : Pts w (.slice ao n cap) ps) (i : Nat) (hi : i < ps.length) : ∃ b off, ao = some ⟨b, off, none⟩ ∧ ∀ w', Kept Nix w w' → w'.cell? ⟨b, off + i * 2, none⟩ = some (.int .i64 (ps.getD i (0, false)).1) ∧ w'.cell? ⟨b, off + i * 2 + 1, none⟩ = some (.bool (ps.getD i (0, false)).2) := by
  obtain ⟨ao', cap', e, h1, h2, h3⟩ := h
  simp only [Value.slice.injEq] at e
  obtain ⟨rfl, rfl, rfl⟩ := e
  obtain ⟨b, off, e2, hb, hc⟩ := h3 (by omega)
  refine ⟨b, off, e2, fun w' hk => ?_⟩
  have hbl := hk.block b hb id
  exact ⟨(World.cell?_of_block hbl).trans (hc i hi).1, (World.cell?_of_block hbl).trans (hc i hi).2⟩

theorem size_plan : (Try.prog.info? 25).map (·.size) = some 3 := by kernel_rfl
theorem one_plan (wd : Bool) (o : Int) (ao : Option Addr) (n c : Nat) : (#[.bool wd, .int .i64 o, .slice ao n c] : Array Value).all (·.oneCell') = true := by simp [Value.oneCell']

theorem put_st (w : World) (cs cs' : Array Value) (t : TypeId) : ∀ w3, w3 = (w.alloc (.cells cs t)).setRow w.heap.size cs' → Kept Nix w w3 ∧ ∀ w', Kept Nix w3 w' → w'.heap[w.heap.size]? = some (.cells cs' t (0, 0)) := by
  rintro w3 rfl
  exact ⟨((Kept.refl _ w).alloc _).setRow (.inr (Nat.le_refl _)) _, fun w' hk => hk.heap (heap_row cs' (heap_alloc_new w (.cells cs t))) id⟩

theorem cells_part {w : World} {g : Nat} {k : Int} {r : Bool} {t : TypeId} (h : w.heap[g]? = some (.cells #[.int .i64 k, .bool r] t (0, 0))) : w.cell? ⟨g, 0, none⟩ = some (.int .i64 k) ∧ w.cell? ⟨g, 1, none⟩ = some (.bool r) :=
  ⟨by rw [cell_of h]; rfl, by rw [cell_of h]; rfl⟩

theorem cells_three {w : World} {g : Nat} {x y z : Value} {t : TypeId} (h : w.heap[g]? = some (.cells #[x, y, z] t (0, 0))) : w.cell? ⟨g, 0, none⟩ = some x ∧ w.cell? ⟨g, 1, none⟩ = some y ∧ w.cell? ⟨g, 2, none⟩ = some z :=
  ⟨by rw [cell_of h]; rfl, by rw [cell_of h]; rfl, by rw [cell_of h]; rfl⟩

/-- The rows of a slice of slices, in any world that kept it. -/
theorem Chs.row {w : World} {ao : Option Addr} {n cap : Nat} {L : List (List Int)} (h : Chs w (.slice ao n cap) L) (i : Nat) (hi : i < L.length) : ∃ b off, ao = some ⟨b, off, none⟩ ∧ ∃ ro rc, ∀ w', Kept Nix w w' → w'.cell? ⟨b, off + i, none⟩ = some (.slice ro (L.getD i []).length rc) ∧ Sl w' (.slice ro (L.getD i []).length rc) (ivs (L.getD i [])) := by
  obtain ⟨b, off, rfl, hb, A, C, hh⟩ := h.at (by omega)
  obtain ⟨h1, h2⟩ := hh i hi
  exact ⟨b, off, rfl, A i, C i, fun w' hk => ⟨(World.cell?_of_block (hk.block b hb id)).trans h1, h2.nix hk⟩⟩

/-- A result of two: a part that lives in memory, and a number. -/
theorem results_part1 {fn : Func} {p u : Tmp} (h : fn.results = #[.cell p 50, .tmp u]) (tmps : Array Value) (w : World) (g : Nat) (cs : Array Value) (x : Int)
    (hp : tmps.getD p undef = .pointer (some ⟨g, 0, none⟩)) (hg : w.heap[g]? = some (.cells cs 50 (0, 0))) (hc : cs.size = 2) (hu : tmps.getD u undef = .int .i64 x) :
    (results fn tmps).run Try.prog w = .ok (.tuple #[.agg cs, .int .i64 x]) w := by
  have h1 := run_loadVar_row (P := Try.prog) w g 50 50 cs (0, 0) _ hg Try.underlying50 rfl (by rw [hc]; exact size_part)
  rw [results_cell_tmp h, hp, hu]
  simp [asAddr, h1, Result.andThen]

theorem results_plan1 {fn : Func} {p u : Tmp} (h : fn.results = #[.cell p 25, .tmp u]) (tmps : Array Value) (w : World) (g : Nat) (cs : Array Value) (x : Int)
    (hp : tmps.getD p undef = .pointer (some ⟨g, 0, none⟩)) (hg : w.heap[g]? = some (.cells cs 25 (0, 0))) (hc : cs.size = 3) (hu : tmps.getD u undef = .int .i64 x) :
    (results fn tmps).run Try.prog w = .ok (.tuple #[.agg cs, .int .i64 x]) w := by
  have h1 := run_loadVar_row (P := Try.prog) w g 25 25 cs (0, 0) _ hg Try.underlying25 rfl (by rw [hc]; exact size_plan)
  rw [results_cell_tmp h, hp, hu]
  simp [asAddr, h1, Result.andThen]

theorem results_plan2 {fn : Func} {p u v : Tmp} (h : fn.results = #[.cell p 25, .tmp u, .tmp v]) (tmps : Array Value) (w : World) (g : Nat) (cs : Array Value) (x y : Int)
    (hp : tmps.getD p undef = .pointer (some ⟨g, 0, none⟩)) (hg : w.heap[g]? = some (.cells cs 25 (0, 0))) (hc : cs.size = 3) (hu : tmps.getD u undef = .int .i64 x) (hv : tmps.getD v undef = .int .i64 y) :
    (results fn tmps).run Try.prog w = .ok (.tuple #[.agg cs, .int .i64 x, .int .i64 y]) w := by
  have h1 := run_loadVar_row (P := Try.prog) w g 25 25 cs (0, 0) _ hg Try.underlying25 rfl (by rw [hc]; exact size_plan)
  simp only [Array.getD_eq_getD_getElem?] at hp hu hv
  simp only [results, h]
  simp [hp, asAddr, h1, hu, hv, Result.andThen]

theorem elem_rows : Try.prog.elem 53 = 22 := by kernel_rfl

theorem size_intsw (w : World) : (sizeOf 22).run Try.prog w = .ok 1 w := by
  obtain ⟨i, hi, hz, hsize, hby⟩ := info_parts info_ints
  simp [sizeOf, typeInfo, hi, hsize]

/-- A slice of rows up to k. -/
theorem run_upto_rw (w : World) (ao : Option Addr) (len cap k : Nat) (h : k ≤ cap) : (Instr.slice 53 (.slice ao len cap) none (some (.int .i64 (k : Int))) none).run Try.prog w = .ok (.slice ao k cap) w := by
  have ht : Try.prog.underlying 53 = some (.slice (Try.prog.elem 53)) := by rw [elem_rows]; exact Try.underlying53
  rw [run_slice_h w 53 ao len cap ht .i64 (k : Int) (by omega) (by omega), elem_rows, size_intsw]
  cases ao with
  | none => simp [sliced]
  | some a => simp [sliced, Addr.add]

end Go.Proofs.Ytlbnjclchmnomaa

namespace Go.Proofs.Ytlbnjclchmnomaa
open Go.RowKit Bx

def BitsInv (vr vp : Value) (P : List (List Int)) (ps : List (Int × Bool)) (m a : Nat) (w : World) (f : Act) (w' : World) : Prop :=
  f.defers = [] ∧ f.tmps.size = 78 ∧ f.tmps[7]? = some vr ∧ f.tmps[8]? = some (.int .i64 (m : Int)) ∧ f.tmps[9]? = some (.int .i64 (a : Int)) ∧ f.tmps[40]? = some vp ∧ f.tmps[41]? = some (.int .i64 (P.length : Int)) ∧
  ∃ i : Nat, i ≤ P.length ∧ f.tmps[42]? = some (.int .i64 (i : Int)) ∧ f.tmps[10]? = some (.int .i64 (6 + zsum a (P.take i) (ps.take i))) ∧ zall m (P.take i) (ps.take i) = true ∧ Kept Nix w w'

theorem zok_parts (m : Nat) (Q : List Int) (k : Int) (r : Bool) : zok m Q (k, r) = (decide (0 ≤ ceach Q k r) && (r || (decide (0 ≤ k) && decide (k ≤ (m : Int))))) := rfl

theorem bits_cases (m : Nat) (Q : List Int) (k : Int) (r : Bool) :
    (zok m Q (k, r) = true ∧ decide (ceach Q k r < 0) = false ∧ (r = true ∨ (r = false ∧ decide (k < 0) = false ∧ decide ((m : Int) < k) = false))) ∨
    (zok m Q (k, r) = false ∧ (decide (ceach Q k r < 0) = true ∨ (decide (ceach Q k r < 0) = false ∧ r = false ∧ decide (k < 0) = true) ∨ (decide (ceach Q k r < 0) = false ∧ r = false ∧ decide (k < 0) = false ∧ decide ((m : Int) < k) = true))) := by
  rw [zok_parts]
  generalize ceach Q k r = x
  cases r
  all_goals
    simp only [Bool.and_eq_true, Bool.or_eq_true, decide_eq_true_eq, decide_eq_false_iff_not, Bool.and_eq_false_iff, Bool.or_eq_false_iff, Bool.false_eq_true, false_or, true_or, and_true, true_and, reduceCtorEq, false_and, or_false, and_false]
    omega

set_option maxRecDepth 10000 in
set_option maxHeartbeats 4000000 in
theorem pbits_any (v : Value) (L : List Int) (k o : Int) (wd : Bool) (vp : Value) (ps : List (Int × Bool)) (w : World) (hv : Sl w v (ivs L)) (hp : Pts w vp ps) (hl : L.length ≤ 1048576) (hk : k ≤ 1099511627776) :
    Calls Try.prog 10 #[v, .int .i64 k, .agg #[.bool wd, .int .i64 o, vp]] w fun e w' => e = .returned (.int .i64 (pbits (pcz L (ctI L.length k o)) ps (wM wd) (wA wd))) ∧ Kept Nix w w' := by
  obtain ⟨ao, ca, rfl, -⟩ := hv.ints
  obtain ⟨po, pc, rfl, hp⟩ := hp.len
  have hb := heap_alloc_new w (.cells #[.bool wd, .int .i64 o, .slice po ps.length pc] 25)
  have k1 : Kept Nix w (w.alloc (.cells #[.bool wd, .int .i64 o, .slice po ps.length pc] 25)) := (Kept.refl _ w).alloc _
  have HB := Lib.hid (fun w' (h : Kept Nix (w.alloc (.cells #[.bool wd, .int .i64 o, .slice po ps.length pc] 25)) w') => cells_three (h.heap hb id))
  have CU := Lib.hid (pcuts_any L.length k o (w.alloc (.cells #[.bool wd, .int .i64 o, .slice po ps.length pc] 25)) hl hk)
  unfold CutsPost at CU
  have CT := Lib.hid (fun vc w' (h : Kept Nix w w') (hc : Sl w' vc (ivs (ni (ctI L.length k o)))) => pcut_any L (ctI L.length k o) _ vc w' (hv.nix h) hc (ctI_sum_le _ _ _) hl (ctI_length_le _ _ _))
  have K1 := Lib.hid k1
  have HP := Lib.hid hp
  have HLE := Lib.hid (And.intro (show (pcz L (ctI L.length k o)).length ≤ 32768 by rw [pcz_length]; exact ctI_length_le _ _ _) (show tl (pcz L (ctI L.length k o)) ≤ 1048576 from Nat.le_trans (tl_pcz _ _) hl))
  have HQL := Lib.hid (show ∀ Q, Q ∈ pcz L (ctI L.length k o) → Q.length ≤ 1048576 from fun Q hQ => by
    obtain ⟨i, hi, rfl⟩ := List.getElem_of_mem hQ
    have h1 := tl_get _ i hi
    rw [show (pcz L (ctI L.length k o)).getD i [] = (pcz L (ctI L.length k o))[i] by simp [List.getD, hi]] at h1
    exact Nat.le_trans h1 (Nat.le_trans (tl_pcz _ _) hl))
  clear hb k1 hv hp hl hk
  generalize pcz L (ctI L.length k o) = P at *
  generalize ctI L.length k o = C at *
  obtain ⟨R, hR⟩ : ∃ R, pbits P ps (wM wd) (wA wd) = R := ⟨_, rfl⟩
  rw [hR]
  have HR := Lib.hid hR
  clear hR
  obtain ⟨m, hm⟩ : ∃ m, P.length = m := ⟨_, rfl⟩
  have HM := Lib.hid hm
  generalize hq : ps.length = q at *
  have HQ := Lib.hid hq
  clear hm hq
  go_enter Try.func10, Try.ntmps10
  go_upto_region 1 with fail
  generalize w.alloc (.cells #[.bool wd, .int .i64 o, .slice po q pc] 25) = w1 at *
  obtain ⟨x0, x1, x2⟩ := HB.out w1 (Kept.refl _ _)
  go_upto_region 2 with (first
    | (go_at_call 23; refine CU.out.mono ?_; rintro e w2 ⟨u2, rfl, o2, k2⟩; have K2 := Lib.hid k2; have C2 := Lib.hid (CT.out u2 w2 (nix_trans K1.out k2) (sl_of_owns o2)); obtain ⟨uo, uc, rfl, -⟩ := owns_shape o2; clear o2 k2 CU CT)
    | (go_at_call 28; refine C2.out.mono ?_; rintro e w3 ⟨u3, rfl, ch3, k3⟩; have K3 := Lib.hid (nix_trans K2.out k3); have CH := Lib.hid ch3; clear ch3 k3 C2))
  clear x0 x1 x2
  obtain ⟨ro, rc, rfl, -⟩ := CH.out.open
  obtain ⟨x0, x1, x2⟩ := HB.out w3 K3.out
  have E0 := HR.out
  unfold pbits at E0
  rw [HM.out] at E0
  rw [HM.out] at CH ⊢
  by_cases h0 : m = 0
  · rw [if_pos (.inl h0)] at E0
    subst E0
    subst h0
    have K4 := Lib.hid (nix_trans K1.out K3.out)
    clear HR HLE HQL
    go_wp2
    go_ret
    exact ⟨rfl, K4.out⟩
  · have t0 : ((m : Int) == 0) = false := by simp; omega
    by_cases hq : m = q
    · subst hq
      have t1 : ((m : Int) != (m : Int)) = false := by simp
      have KS := Lib.hid (ks_any wd)
      go_upto_region 5 with (go_at_call 29; refine (KS.out _).mono ?_; rintro e w4 ⟨rfl, rfl⟩; clear KS)
      go_wp2
      have K4 := Lib.hid (nix_trans K1.out K3.out)
      have X := Lib.hid (fun w' (h : Kept Nix w4 w') => HB.out w' (nix_trans K3.out h))
      have EA := Lib.hid (fun (i : Nat) (hi : i < m) v' w' (h : Sl w' v' (ivs (P.getD i []))) => ceach_any v' (P.getD i []) (ps.getD i (0, false)).1 (ps.getD i (0, false)).2 w' h (HQL.out _ (by
        have h1 : i < P.length := by rw [HM.out]; exact hi
        simp [List.getD, h1])))
      have h0' := h0
      clear x0 x1 x2 t0 t1 HB K1 K3 h0
      refine wp_loop (BitsInv (.slice ro m rc) (.slice po m pc) P ps (wM wd) (wA wd) w4) (fun f _ => m - (intOf (f.tmps.getD 42 undef)).toNat) ?_ ?_
      · exact ⟨rfl, rfl, rfl, rfl, rfl, rfl, by rw [HM.out]; rfl, 0, Nat.zero_le _, rfl, rfl, rfl, Kept.refl _ _⟩
      · rintro ⟨tm, df⟩ w5 ⟨rfl, hs, e7, e8, e9, e40, e41, i, hi, e42, e10, hza, hk⟩
        simp only at hs e7 e8 e9 e40 e41 e42 e10
        rw [HM.out] at e41 hi
        obtain ⟨f, hf, hg⟩ := fr_open hs
        have g7 := hg _ _ e7
        have g8 := hg _ _ e8
        have g9 := hg _ _ e9
        have g40 := hg _ _ e40
        have g41 := hg _ _ e41
        have g42 := hg _ _ e42
        have g10 := hg _ _ e10
        simp only [List.range, List.range.loop, List.map] at hf
        rw [g7, g8, g9, g40, g41, g42, g10] at hf
        clear g7 g8 g9 g40 g41 g42 g10 hg hs e7 e8 e9 e40 e41 e42 e10
        subst hf
        have HK := Lib.hid hk
        have HZ := Lib.hid hza
        clear hk hza
        by_cases hlt : i < m
        · have hdd : decide (i < m) = true := decide_eq_true hlt
          have hi1 : (i : Int) < (m : Int) := by omega
          obtain ⟨b1, o1, rfl, hc1⟩ := HP.out.at i (by rw [HQ.out]; exact hlt)
          obtain ⟨b2, o2, rfl, ro2, rc2, hc2⟩ := CH.out.row i (by rw [HM.out]; exact hlt)
          obtain ⟨y1, y2⟩ := hc1 w5 (nix_trans K4.out HK.out)
          have R2 := Lib.hid (fun w' h => hc2 w' (nix_trans HK.out h))
          have EI := Lib.hid (EA.out i hlt)
          have ZS := Lib.hid (zsum_step (wA wd) P ps i (by rw [HM.out]; exact hlt) (by rw [HQ.out]; exact hlt))
          have ZA := Lib.hid (zall_step (wM wd) P ps i (by rw [HM.out]; exact hlt) (by rw [HQ.out]; exact hlt))
          have ZN := Lib.hid (zall_not (wM wd) P ps i (by rw [HM.out]; exact hlt) (by rw [HQ.out]; exact hlt))
          have ZF := Lib.hid (fun h => zsum_fits (m := wM wd) (a := wA wd) (P := P) (ps := ps) (i + 1) (wA_le wd) HLE.out.1 HLE.out.2 h)
          have ZF0 := Lib.hid (zsum_fits (m := wM wd) (a := wA wd) (P := P) (ps := ps) i (wA_le wd) HLE.out.1 HLE.out.2 HZ.out)
          have HI := Lib.hid hlt
          have HW := Lib.hid (show wrap64 ((i : Int) + 1) = ((i + 1 : Nat) : Int) by have := HLE.out.1; have := HM.out; rw [w64_in _ (by omega)]; omega)
          clear hc1 hc2 hlt hi EA
          generalize P.getD i [] = Q at *
          generalize ps.getD i (0, false) = pk at *
          obtain ⟨pk, pr⟩ := pk
          simp only at y1 y2 EI ZS
          generalize Q.length = ql at *
          go_upto_region 9 with fail
          have PC := Lib.hid (part_cells w5 pk pr 50)
          have K6 := Lib.hid ((Kept.refl Nix w5).alloc (.cells #[.int .i64 pk, .bool pr] 50))
          generalize w5.alloc (.cells #[.int .i64 pk, .bool pr] 50) = w6 at *
          generalize w5.heap.size = g6 at *
          obtain ⟨p1, p2, p3⟩ := PC.out w6.drew (Kept.refl _ _).drew
          obtain ⟨r1, r2⟩ := R2.out w6.drew K6.out.drew
          clear y1 y2 hdd
          go_region_law
            (first | (go_simp; go_at_call 30; refine (EI.out _ _ r2).mono ?_; rintro e w7 ⟨rfl, k7⟩; have K7 := Lib.hid k7; clear k7))
          all_goals
            have K67 := Lib.hid (show Kept Nix w6 w7 from nix_trans ((Kept.refl Nix w6).drew) K7.out)
            obtain ⟨q1, q2, q3⟩ := PC.out w7 K67.out
            clear p1 p2 p3 r1 r2 EI R2 q3
            have BC := bits_cases (wM wd) Q pk pr
            obtain ⟨x, hx⟩ : ∃ x, ceach Q pk pr = x := ⟨_, rfl⟩
            rw [hx] at BC ZS ⊢
            have KF := Lib.hid (nix_trans K4.out (nix_trans HK.out (nix_trans K6.out K67.out)))
            have KG := Lib.hid (nix_trans HK.out (nix_trans K6.out K67.out))
            clear hx
            rcases BC with ⟨bz, b1, b2⟩ | ⟨bz, bb⟩
            · have HZ2 := Lib.hid (show zall (wM wd) (P.take (i + 1)) (ps.take (i + 1)) = true by rw [ZA.out, HZ.out, bz]; rfl)
              have hz2 := ZF.out HZ2.out
              have hz1 := ZF0.out
              rw [ZS.out] at hz2
              have HZS := Lib.hid (show 6 + zsum (wA wd) (P.take (i + 1)) (ps.take (i + 1)) = 6 + (zsum (wA wd) (P.take i) (ps.take i) + ((wA wd : Int) + x)) by rw [ZS.out])
              have e3 : wrap64 ((wA wd : Int) + x) = (wA wd : Int) + x := w64_in _ (by omega)
              have e4 : wrap64 (6 + zsum (wA wd) (P.take i) (ps.take i) + ((wA wd : Int) + x)) = 6 + (zsum (wA wd) (P.take i) (ps.take i) + ((wA wd : Int) + x)) := by rw [w64_in _ (by omega)]; omega
              have E3 := Lib.hid (And.intro e3 e4)
              generalize zsum (wA wd) (P.take i) (ps.take i) = z at *
              clear hz1 hz2 bz e3 e4 ZF ZF0 ZN ZA ZS HR
              rcases b2 with rfl | ⟨rfl, b3, b4⟩
              all_goals
                go_wp2
                rw [HW.out, E3.out.1, E3.out.2]
                exact ⟨⟨rfl, rfl, rfl, rfl, rfl, rfl, by rw [HM.out]; rfl, i + 1, by rw [HM.out]; exact HI.out, rfl, by rw [HZS.out]; rfl, HZ2.out, KG.out⟩, nearer HI.out rfl⟩
            · rw [if_pos (.inr (.inr (ZN.out bz)))] at E0
              subst E0
              clear bz ZF ZF0 ZN ZA ZS HR
              generalize zsum (wA wd) (P.take i) (ps.take i) = z at *
              rcases bb with b1 | ⟨b1, rfl, b2⟩ | ⟨b1, rfl, b2, b3⟩
              all_goals
                go_wp2
                go_ret
                exact ⟨rfl, KF.out⟩
        · have hie : i = m := by omega
          subst hie
          have hdd : decide (i < i) = false := decide_eq_false hlt
          clear hlt hi
          have HT := Lib.hid (show P.take i = P ∧ ps.take i = ps from ⟨by rw [← HM.out, List.take_length], by rw [← HQ.out, List.take_length]⟩)
          have hz := HZ.out
          rw [HT.out.1, HT.out.2] at hz
          rw [if_neg (by rw [HQ.out, hz]; rintro (h | h | h); exact h0' h; exact h rfl; cases h)] at E0
          rw [HT.out.1, HT.out.2]
          have E0 := Lib.hid E0
          clear hz HR
          generalize zsum (wA wd) P ps = z at *
          go_wp2
          go_ret
          exact ⟨by rw [← E0.out]; rfl, nix_trans K4.out HK.out⟩
    · have t1 : ((m : Int) != (q : Int)) = true := bne_iff_ne.2 (by omega)
      rw [if_pos (.inr (.inl (by rw [HQ.out]; exact hq)))] at E0
      subst E0
      have K4 := Lib.hid (nix_trans K1.out K3.out)
      clear HR HLE HQL h0 hq
      go_wp2
      go_ret
      exact ⟨rfl, K4.out⟩

end Go.Proofs.Ytlbnjclchmnomaa
