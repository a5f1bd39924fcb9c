/- A window of a slice of integers: x[lo:hi]. The reference's Split. The reference's Same, of two plans that are alike. What a law is told of a plan: a bool, an integer and a slice of parts. -/
import Derived.Test.YtlbnjclchmnomaaPk12
import Derived.Test.YtlbnjclchmnomaaPk13
import Derived.Test.YtlbnjclchmnomaaPk17
import Derived.Test.YtlbnjclchmnomaaPk16
import Derived.Test.YtlbnjclchmnomaaPk10
import Derived.Deep.Strs
import Derived.Deep.SlicePairs

namespace Go.Proofs.Ytlbnjclchmnomaa
open Go.RowKit Bx

/-- A slice of integers from lo to hi. -/
theorem run_win_i (w : World) (ao : Option Addr) (len cap lo hi : Nat) (h1 : lo ≤ hi) (h2 : hi ≤ cap) : (Instr.slice 22 (.slice ao len cap) (some (.int .i64 (lo : Int))) (some (.int .i64 (hi : Int))) none).run Try.prog w = .ok (.slice (if cap = lo then ao else ao.map (fun x => x.add lo)) (hi - lo) (cap - lo)) w := by
  have ht : Try.prog.underlying 22 = some (.slice (Try.prog.elem 22)) := by rw [elem_ints]; exact Try.underlying22
  rw [run_slice_lh w 22 ao len cap ht .i64 .i64 (lo : Int) (hi : Int) (by omega) (by omega) (by omega), elem_ints, size_int]
  simp [sliced]

/-- Those just ahead, as a slice. -/
theorem sl_win {w : World} {ao : Option Addr} {len cap : Nat} {zs : List Int} (h : Sl w (.slice ao len cap) (ivs zs)) (i n : Nat) (hk : i + n ≤ len) : Sl w (.slice (if cap = i then ao else ao.map (fun x => x.add i)) n (cap - i)) (ivs ((zs.drop i).take n)) :=
  sl_take_i (sl_drop_i h i (by omega)) n (by omega)

end Go.Proofs.Ytlbnjclchmnomaa

namespace Go.Proofs.Ytlbnjclchmnomaa
open Go.RowKit Bx

def SplitInv (vl vc : Value) (L : List Int) (C : List Nat) (wb w : World) (a : Act) (w' : World) : Prop :=
  a.defers = [] ∧ a.tmps.size = 33 ∧ a.tmps[0]? = some vl ∧ a.tmps[1]? = some vc ∧
  ∃ i : Nat, i ≤ C.length ∧ a.tmps[7]? = some (.int .i64 (i : Int)) ∧ a.tmps[6]? = some (.int .i64 ((C.take i).sum : Int)) ∧ ∃ (us : List Value) (u : Value), a.tmps[5]? = some u ∧ us.length = i ∧ w'.ownsRow w.heap.size 22 1 u i us ∧
    (∀ j, j < i → ∃ x, us[j]? = some x ∧ Sl wb x (ivs ((pcz L C).getD j []))) ∧ Kept Nix w w'

/-- Rows that are windows of what lay in wb; the slice of them is the call's own. -/
def SplitOf (L : List Int) (C : List Nat) (wb w : World) (u : Value) (w' : World) : Prop :=
  ∃ us : List Value, us.length = (pcz L C).length ∧ w'.ownsRow w.heap.size 22 1 u us.length us ∧ ∀ j, j < (pcz L C).length → ∃ x, us[j]? = some x ∧ Sl wb x (ivs ((pcz L C).getD j []))

theorem SplitOf.chs {L : List Int} {C : List Nat} {wb w w' : World} {u : Value} (h : SplitOf L C wb w u w') (hk : Kept Nix wb w') : Chs w' u (pcz L C) := by
  obtain ⟨us, h1, h2, h3⟩ := h
  refine ⟨us, sl_of_owns h2, h1, fun j hj => ?_⟩
  obtain ⟨x, hx, hs⟩ := h3 j hj
  exact ⟨x, hx, hs.nix hk⟩

theorem SplitOf.kept {L : List Int} {C : List Nat} {wb w w' w2 : World} {u : Value} {S : Nat → Prop} (h : SplitOf L C wb w u w') (hk : Kept S w' w2) (hS : ∀ k, w.heap.size ≤ k → ¬ S k) : SplitOf L C wb w u w2 := by
  obtain ⟨us, h1, h2, h3⟩ := h
  exact ⟨us, h1, hk.owns h2 (fun k hb hs => hS k (own_lt h2 hb).1 hs), h3⟩

set_option maxRecDepth 10000 in
set_option maxHeartbeats 2000000 in
theorem rsplit_at (L : List Int) (C : List Nat) (vl vc : Value) (wb w : World) (hL : Sl wb vl (ivs L)) (hC : Sl w vc (ivs (ni C))) (hs : C.sum ≤ L.length) (hl : L.length ≤ 1048576) (hcl : C.length ≤ 32768) :
    Calls Try.prog 21 #[vl, vc] w fun e w' => ∃ u, e = .returned u ∧ SplitOf L C wb w u w' ∧ Kept Nix w w' := by
  obtain ⟨ao, ca, rfl, hca, -⟩ := hL.ints
  obtain ⟨bo, cb, rfl, -⟩ := hC.ints
  rw [ni_length] at hC ⊢
  have HL := Lib.hid hL
  have HC := Lib.hid hC
  have HS := Lib.hid hs
  have HLL := Lib.hid hl
  have HCL := Lib.hid hcl
  have HCA := Lib.hid hca
  clear hL hC hs hl hcl hca
  obtain ⟨m, hm⟩ : ∃ m, C.length = m := ⟨_, rfl⟩
  have HM := Lib.hid hm
  rw [hm] at HC ⊢
  clear hm
  go_enter Try.func21, Try.ntmps21
  go_wp2
  refine wp_loop (SplitInv (.slice ao L.length ca) (.slice bo m cb) L C wb w) (fun a _ => m - (intOf (a.tmps.getD 7 undef)).toNat) ?_ ?_
  · exact ⟨rfl, rfl, rfl, rfl, 0, Nat.zero_le _, rfl, rfl, [], _, rfl, rfl, World.ownsRow_nil _ _ _ _, fun j hj => absurd hj (Nat.not_lt_zero _), Kept.refl _ _⟩
  · rintro ⟨tm, df⟩ w2 ⟨rfl, hs, e0, e1, i, hi, e7, e6, us, u, e5, hul, ho, hus, hk⟩
    simp only at hs e0 e1 e7 e6 e5
    rw [HM.out] at hi
    obtain ⟨f, hf, hg⟩ := fr_open hs
    have g0 := hg _ _ e0
    have g1 := hg _ _ e1
    have g7 := hg _ _ e7
    have g6 := hg _ _ e6
    have g5 := hg _ _ e5
    simp only [List.range, List.range.loop, List.map] at hf
    rw [g0, g1, g7, g6, g5] at hf
    clear g0 g1 g7 g6 g5 hg hs e0 e1 e7 e6 e5
    subst hf
    have HUS := Lib.hid hus
    have HUL := Lib.hid hul
    have HK := Lib.hid hk
    have HO := Lib.hid ho
    clear hus hul hk ho
    by_cases hlt : i < m
    · have hdd : decide (i < m) = true := decide_eq_true hlt
      have hi1 : (i : Int) < (m : Int) := by omega
      have hic : i < C.length := by rw [HM.out]; exact hlt
      obtain ⟨b1, o1, rfl, hc1⟩ := cell_kept HC.out i (by rw [ni_length]; exact hic)
      rw [ni_get] at hc1
      have x1 := hc1 _ HK.out
      have hsn := sum_next C i hic
      have hsl := sum_take_le C (i + 1)
      have hpg := pcz_get L C i hic
      have hzw : wrap64 (((C.take i).sum : Int) + (C.getD i 0 : Int)) = ((C.take (i + 1)).sum : Int) := by
        have := HS.out
        have := HLL.out
        rw [w64_in _ (by omega)]; omega
      have r1 := fun w => run_win_i w ao L.length ca (C.take i).sum (C.take (i + 1)).sum (by omega) (by have := HS.out; have := HCA.out; omega)
      have S2 := Lib.hid (sl_win HL.out (C.take i).sum ((C.take (i + 1)).sum - (C.take i).sum) (by have := HS.out; omega))
      rw [show (L.drop (C.take i).sum).take ((C.take (i + 1)).sum - (C.take i).sum) = (pcz L C).getD i [] by rw [hpg]; congr 1; omega] at S2
      generalize hgz1 : (C.take (i + 1)).sum = z1 at *
      have HZ1 := Lib.hid hgz1
      generalize hgvo : (if ca = (C.take i).sum then ao else ao.map (fun x => x.add (C.take i).sum)) = vo at *
      generalize hgvc : ca - (C.take i).sum = vcc at *
      generalize hgvn : z1 - (C.take i).sum = vn at *
      generalize hgz : (C.take i).sum = z0 at *
      generalize C.getD i 0 = c at *
      have M3 := Lib.hid (show i + 1 ≤ maxLen by have := HCL.out; simp only [maxLen]; omega)
      have M4 := Lib.hid (show (i + 1) * 24 ≤ 140737488355328 by have := HCL.out; omega)
      have O5 := Lib.hid (HO.out.alloc (.cells #[.slice vo vn vcc] 22))
      have HBS := Lib.hid (show w.heap.size ≤ (w2.alloc (.cells #[.slice vo vn vcc] 22)).heap.size from (HK.out.alloc _).size)
      have HI := Lib.hid hlt
      have X6 := Lib.hid (fun w' h => hc1 w' h)
      have HZW := Lib.hid hzw
      have HW := Lib.hid (show wrap64 ((i : Int) + 1) = ((i + 1 : Nat) : Int) by have := HCL.out; have := HM.out; rw [w64_in _ (by omega)]; omega)
      clear hc1 hlt hi hic hsn hsl hpg hgz1 hgvo hgvc hgvn hgz
      go_upto_region 7 with (
        refine wpList_app _ rfl _ _ 53 rfl w.heap.size 22 (.slice none 0 0) 1 24 Try.underlying53 info_ints rfl (by decide) _ _ _ rfl O5.out _ 1 1 [.slice vo vn vcc] rfl (src_one w2 _ _ rfl) M3.out M4.out HBS.out ?_
        intro v6 w6 o6 g6 n6; have k6 : Kept Nix w w6 := (HK.out.alloc _).grown g6 (fun kk hkk => .inr (O5.out.lt kk hkk).1); have K6 := Lib.hid k6; have O6 := Lib.hid o6; clear k6 o6 g6 n6)
      have x6 := X6.out w6 K6.out
      clear hzw x1 r1
      go_wp2
      rw [HW.out, HZW.out]
      refine ⟨⟨rfl, rfl, rfl, rfl, i + 1, by rw [HM.out]; exact HI.out, rfl, by rw [HZ1.out]; rfl, us ++ [.slice vo vn vcc], v6, rfl, by rw [List.length_append, HUL.out]; rfl, O6.out, fun j hj => ?_, K6.out⟩, nearer HI.out rfl⟩
      by_cases hji : j < i
      · obtain ⟨x, hx, hsx⟩ := HUS.out j hji
        exact ⟨x, by rw [List.getElem?_append_left (by rw [HUL.out]; exact hji)]; exact hx, hsx⟩
      · have hje : j = i := by omega
        subst hje
        exact ⟨_, by rw [← HUL.out]; simp, S2.out⟩
    · have hie : i = m := by omega
      subst hie
      have hdd : decide (i < i) = false := decide_eq_false hlt
      clear hlt hi
      go_wp2
      go_ret
      have hou : w2.ownsRow w.heap.size 22 1 u us.length us := by rw [HUL.out]; exact HO.out
      refine ⟨u, rfl, ⟨us, by rw [HUL.out, pcz_length, HM.out], hou, fun j hj => ?_⟩, HK.out⟩
      exact HUS.out j (by rw [pcz_length, HM.out] at hj; exact hj)

theorem rsplit_any (L : List Int) (C : List Nat) (vl vc : Value) (w : World) (hL : Sl w vl (ivs L)) (hC : Sl w vc (ivs (ni C))) (hs : C.sum ≤ L.length) (hl : L.length ≤ 1048576) (hcl : C.length ≤ 32768) :
    Calls Try.prog 21 #[vl, vc] w fun e w' => ∃ u, e = .returned u ∧ Chs w' u (pcz L C) ∧ Kept Nix w w' := by
  refine (rsplit_at L C vl vc w w hL hC hs hl hcl).mono ?_
  rintro e w' ⟨u, rfl, ho, hk⟩
  exact ⟨u, rfl, ho.chs hk, hk⟩

end Go.Proofs.Ytlbnjclchmnomaa

namespace Go.Proofs.Ytlbnjclchmnomaa
open Go.RowKit Bx

theorem two_new (w : World) (c1 c2 : Array Value) (t u : TypeId) : ∀ w2, w2 = (w.alloc (.cells c1 t)).alloc (.cells c2 u) → w2.heap[w.heap.size]? = some (.cells c1 t (0, 0)) ∧ w2.heap[w.heap.size + 1]? = some (.cells c2 u (0, 0)) ∧ Kept Nix w w2 := by
  rintro w2 rfl
  have h := heap_alloc_new (w.alloc (.cells c1 t)) (.cells c2 u)
  refine ⟨((Kept.refl Nix (w.alloc (.cells c1 t))).alloc _).heap (heap_alloc_new w _) id, ?_, ((Kept.refl Nix w).alloc _).alloc _⟩
  simpa using h

def PSameInv (g2 g3 : Nat) (n : Nat) (w : World) (a : Act) (w' : World) : Prop :=
  a.defers = [] ∧ a.tmps.size = 45 ∧ a.tmps[2]? = some (.pointer (some ⟨g2, 0, none⟩)) ∧ a.tmps[3]? = some (.pointer (some ⟨g3, 0, none⟩)) ∧
  ∃ i : Nat, i ≤ n ∧ a.tmps[5]? = some (.int .i64 (i : Int)) ∧ ∃ k, w' = w.drewN k

set_option maxRecDepth 10000 in
set_option maxHeartbeats 2000000 in
theorem rpsame_eq (wd : Bool) (o : Int) (va vb : Value) (ps : List (Int × Bool)) (w : World) (ha : Pts w va ps) (hb : Pts w vb ps) :
    Calls Try.prog 16 #[.agg #[.bool wd, .int .i64 o, va], .agg #[.bool wd, .int .i64 o, vb]] w fun e w' => e = .returned (.bool true) ∧ Kept Nix w w' := by
  obtain ⟨ao, ac, rfl, ha⟩ := ha.len
  obtain ⟨bo, bc, rfl, hb⟩ := hb.len
  have HL := Lib.hid (show ps.length ≤ 9223372036854775807 by obtain ⟨_, cap, e, h1, h2, -⟩ := ha; simp only [maxLen] at h2; omega)
  have HA := Lib.hid ha
  have HB := Lib.hid hb
  have TN := Lib.hid (two_new w #[.bool wd, .int .i64 o, .slice ao ps.length ac] #[.bool wd, .int .i64 o, .slice bo ps.length bc] 25 25 _ rfl)
  clear ha hb
  generalize hn : ps.length = n at *
  have HN := Lib.hid hn
  clear hn
  go_enter Try.func16, Try.ntmps16
  go_upto_region 1 with fail
  generalize (w.alloc (.cells #[.bool wd, .int .i64 o, .slice ao n ac] 25)).alloc (.cells #[.bool wd, .int .i64 o, .slice bo n bc] 25) = w1 at *
  have K1 := Lib.hid TN.out.2.2
  have CA := Lib.hid (fun w' (h : Kept Nix w1 w') => cells_three (h.heap TN.out.1 id))
  have CB := Lib.hid (fun w' (h : Kept Nix w1 w') => cells_three (h.heap TN.out.2.1 id))
  clear TN
  generalize w.heap.size + 1 = g3 at *
  generalize w.heap.size = g2 at *
  obtain ⟨x0, x1, x2⟩ := CA.out w1 (Kept.refl _ _)
  obtain ⟨y0, y1, y2⟩ := CB.out w1 (Kept.refl _ _)
  have e1 : (wd != wd) = false := bne_self_eq_false _
  have e2 : (o != o) = false := bne_self_eq_false _
  have e3 : ((n : Int) != (n : Int)) = false := bne_self_eq_false _
  go_wp2
  clear x0 x1 x2 y0 y1 y2 e1 e2 e3
  refine wp_loop (PSameInv g2 g3 n w1) (fun a _ => n - (intOf (a.tmps.getD 5 undef)).toNat) ?_ ?_
  · exact ⟨rfl, rfl, rfl, rfl, 0, Nat.zero_le _, rfl, 0, rfl⟩
  · rintro ⟨tm, df⟩ w2 ⟨rfl, hs, g2', g3', i, hi, g5', k, rfl⟩
    simp only at hs g2' g3' g5'
    obtain ⟨f, hf, hg⟩ := fr_open hs
    have h2 := hg _ _ g2'
    have h3 := hg _ _ g3'
    have h5 := hg _ _ g5'
    simp only [List.range, List.range.loop, List.map] at hf
    rw [h2, h3, h5] at hf
    clear h2 h3 h5 hg hs g2' g3' g5'
    subst hf
    have hk := (Kept.refl Nix w1).drewN k
    obtain ⟨x0, x1, x2⟩ := CA.out _ hk
    obtain ⟨y0, y1, y2⟩ := CB.out _ hk
    clear x0 x1 y0 y1
    by_cases hlt : i < n
    · have hdd : decide (i < n) = true := decide_eq_true hlt
      have hi1 : (i : Int) < (n : Int) := by omega
      obtain ⟨b1, o1, rfl, hc1⟩ := HA.out.at i (by rw [HN.out]; exact hlt)
      obtain ⟨b2, o2, rfl, hc2⟩ := HB.out.at i (by rw [HN.out]; exact hlt)
      obtain ⟨p1, p2⟩ := hc1 _ (nix_trans K1.out hk)
      obtain ⟨q1, q2⟩ := hc2 _ (nix_trans K1.out hk)
      have HI := Lib.hid hlt
      have HW := Lib.hid (show wrap64 ((i : Int) + 1) = ((i + 1 : Nat) : Int) by have := HL.out; rw [w64_in _ (by omega)]; omega)
      clear hc1 hc2 hlt hi hk
      generalize ps.getD i (0, false) = pk at *
      obtain ⟨pk, pr⟩ := pk
      simp only at p1 p2 q1 q2
      generalize hwx : w1.drewN k = wx at *
      have HWX := Lib.hid hwx
      have e1 : (pk != pk) = false := bne_self_eq_false _
      have e2 : (pr != pr) = false := bne_self_eq_false _
      have e3 : (pk == pk) = true := by simp
      have e4 : (pr == pr) = true := by simp
      clear hwx
      go_wp2
      go_quiet (fail)
      clear p1 p2 q1 q2 x2 y2 e1 e2 e3 e4
      go_wp2
      rw [HW.out]
      exact ⟨⟨rfl, rfl, rfl, rfl, i + 1, HI.out, rfl, k + nq, by rw [← HWX.out, World.drewN_drewN]⟩, nearer HI.out rfl⟩
    · have hie : i = n := by omega
      subst hie
      have hdd : decide (i < i) = false := decide_eq_false hlt
      clear hi hlt hk
      go_wp2
      go_ret
      exact ⟨rfl, K1.out.drewN _⟩

end Go.Proofs.Ytlbnjclchmnomaa

namespace Go.Proofs.Ytlbnjclchmnomaa
open Go.RowKit Go.ChangeShapes Go.WideShapes Go.ChangeAt

theorem plan_slice_head {H : Type} {enc : TypeId × Value → H} {P : Program} {W : World} {base : Nat} {sp : Nat → Bool} {held : Bool} {t e : TypeId} {u : Value} {fuel : Nat} {x : DataW H × List MemPlace}
    (ht : P.underlying t = some (.slice e)) (h : DataW.trod enc P W base sp held fuel t [u] = some x) : ∃ a l c, u = .slice a l c := by
  cases fuel with
  | zero => simp [DataW.trod] at h
  | succ n =>
    rw [DataW.trod_step] at h
    unfold DataW.trodStep at h
    simp only [ht] at h
    cases u <;> first | exact ⟨_, _, _, rfl⟩ | simp at h

theorem arg_parts {H : Type} {enc : TypeId × Value → H} {P : Program} {W : World} {s e i b : TypeId} {f0 f1 : Field} {a0 : Option Addr} {len0 cap0 : Nat} {fuel : Nat} {x : DataW H × List MemPlace}
    (hs : P.underlying s = some (.slice e)) (he : P.underlying e = some (.struct #[f0, f1])) (ce : P.cellsOf e = 2) (o0 : f0.offset = 0) (o1 : f1.offset = 1) (t0 : f0.type = i) (t1 : f1.type = b)
    (hi : P.underlying i = some (.int .i64)) (hb : P.underlying b = some .bool) (ci : P.cellsOf i = 1) (cb : P.cellsOf b = 1)
    (h : DataW.trod enc P W 0 (fun _ => true) true fuel s [.slice a0 len0 cap0] = some x) : ∃ ps : List (Int × Bool), Pts W (.slice a0 len0 cap0) ps := by
  rcases Deep.open_slice_pairs hs he ce o0 o1 (by rw [t0]; exact ci) (by rw [t1]; exact cb) h with ⟨hcs, _⟩ | ⟨a, l, c, m, n, V0, V1, D0, D1, P0, P1, hcs, _, hl, hm, hmm, _, hc⟩
  · simp only [List.cons.injEq, Value.slice.injEq, and_true] at hcs
    obtain ⟨rfl, rfl, rfl⟩ := hcs
    exact ⟨[], none, 0, rfl, Nat.le_refl _, by simp [maxLen], fun h => absurd h (Nat.not_lt_zero _)⟩
  · simp only [List.cons.injEq, Value.slice.injEq, and_true] at hcs
    obtain ⟨rfl, rfl, rfl⟩ := hcs
    simp only [if_true] at hmm
    subst hmm
    have each : ∀ j, j < len0 → ∃ q : Int × Bool, W.cell? (a.add (j * 2)) = some (.int .i64 q.1) ∧ W.cell? (a.add (j * 2 + 1)) = some (.bool q.2) := by
      intro j hj
      obtain ⟨c0, c1, d0, d1⟩ := hc j (by omega)
      rw [t0] at d0
      rw [t1] at d1
      obtain ⟨z, e1, _, _⟩ := DataW.trod_int hi d0
      obtain ⟨r, e2, _⟩ := DataW.trod_bool hb d1
      simp only [List.cons.injEq, and_true] at e1 e2
      exact ⟨(z, r), by rw [c0, e1], by rw [c1, e2]⟩
    obtain ⟨q, hq⟩ := Deep.choose_lt each
    have hlen : ((List.range len0).map q).length = len0 := by simp
    refine ⟨(List.range len0).map q, some a, m, by rw [hlen], by rw [hlen]; exact hl, hm, fun h0 => ?_⟩
    rw [hlen] at h0
    obtain ⟨h1, -⟩ := hq 0 h0
    obtain ⟨bb, off, spot⟩ := a
    have hspot : spot = none := by simpa [Addr.add] using World.cell?_spot h1
    subst hspot
    refine ⟨bb, off, rfl, ?_, fun j hj => ?_⟩
    · have := World.block_lt_of_cell? W _ h1
      simpa [Addr.add] using this
    · rw [hlen] at hj
      obtain ⟨g0, g1⟩ := hq j hj
      rw [Addr.add_lit] at g0 g1
      have e : ((List.range len0).map q).getD j (0, false) = q j := by simp [List.getD, hj]
      rw [e]
      exact ⟨g0, by rw [Nat.add_assoc]; exact g1⟩

theorem arg_plan {H : Type} {enc : TypeId × Value → H} {P : Program} {W : World} {t i b s e : TypeId} {f0 f1 f2 p0 p1 : Field} {r : Reach} {b0 : Nat} {v : Value} {d : DataW H} {p : List MemPlace}
    (ht : P.underlying t = some (.struct #[f0, f1, f2])) (h3 : P.cellsOf t = 3) (t0 : f0.type = b) (t1 : f1.type = i) (t2 : f2.type = s) (o0 : f0.offset = 0) (o1 : f1.offset = 1) (o2 : f2.offset = 2)
    (hb : P.underlying b = some .bool) (hi : P.underlying i = some (.int .i64)) (hs : P.underlying s = some (.slice e)) (he : P.underlying e = some (.struct #[p0, p1])) (ce : P.cellsOf e = 2)
    (q0 : p0.offset = 0) (q1 : p1.offset = 1) (u0 : p0.type = i) (u1 : p1.type = b) (cb : P.cellsOf b = 1) (ci : P.cellsOf i = 1) (cs : P.cellsOf s = 1)
    (hval : Value.okWide P W r b0 t v) (h : DataW.Trod enc P W 0 (fun _ => true) true t v d p) :
    ∃ (x : Bool) (y : Int) (u : Value), v = .agg #[.bool x, .int .i64 y, u] ∧ (Lit.int .i64 y).wf = true ∧ ∃ ps : List (Int × Bool), Pts W u ps := by
  obtain ⟨cl, rfl, hsz⟩ := okWide_struct ht hval
  obtain ⟨c0, c1, c2, rfl⟩ : ∃ c0 c1 c2, cl = #[c0, c1, c2] := by
    obtain ⟨l⟩ := cl
    rw [h3] at hsz
    match l, hsz with
    | [a, b, c], _ => exact ⟨a, b, c, rfl⟩
  obtain ⟨fuel, hf⟩ := h
  obtain ⟨y0, y1, y2, n, _, _, hy0, hy1, hy2⟩ := Deep.trod_struct3 ht hf
  rw [t0, o0, cb] at hy0
  rw [t1, o1, ci] at hy1
  rw [t2, o2, cs] at hy2
  simp only [Value.cells, List.drop_zero, List.take_succ_cons, List.take_zero, List.drop_succ_cons] at hy0 hy1 hy2
  obtain ⟨x, ex, _⟩ := DataW.trod_bool hb hy0
  obtain ⟨y, ey, _, wy⟩ := DataW.trod_int hi hy1
  obtain ⟨a, l, c, rfl⟩ := plan_slice_head hs hy2
  simp only [List.cons.injEq, and_true] at ex ey
  subst ex
  subst ey
  obtain ⟨ps, hps⟩ := arg_parts hs he ce q0 q1 u0 u1 hi hb ci cb hy2
  exact ⟨x, y, _, rfl, wy, ps, hps⟩

end Go.Proofs.Ytlbnjclchmnomaa
