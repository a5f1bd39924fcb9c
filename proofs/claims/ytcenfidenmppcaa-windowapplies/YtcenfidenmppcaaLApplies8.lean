/- The walk of WindowApplies. -/
import Derived.Test.YtcenfidenmppcaaAwake08
import Derived.Test.YtcenfidenmppcaaWinRAp
import Derived.Test.YtcenfidenmppcaaArgs
namespace Go.Proofs.Ytcenfidenmppcaa
open Go.RowKit Bx

/-- The weights of the numbers. -/
def wts (ws : List Int) : List Int := ws.map (fun n => n % 32769)

theorem wts_length (ws : List Int) : (wts ws).length = ws.length := by simp [wts]
theorem wts_take (ws : List Int) (i : Nat) (h : i < ws.length) : wts (ws.take (i + 1)) = wts (ws.take i) ++ [ws.getD i 0 % 32769] := by
  rw [take_getD ws i h]; simp [wts]
theorem wts_bd (ws : List Int) : ∀ n ∈ wts ws, 0 ≤ n ∧ n ≤ 32768 := by
  intro n hn
  obtain ⟨m, _, rfl⟩ := List.mem_map.1 hn
  omega

theorem wt_nums (n : Int) (h : (Lit.int .u16 n).wf = true) : n.tmod 32769 = n % 32769 ∧ wrap64 (n % 32769) = n % 32769 := by
  obtain ⟨n, rfl, hn⟩ := nat_u16 h
  refine ⟨Int.tmod_eq_emod_of_nonneg (by omega), ?_⟩
  unfold wrap64; omega

/-- The cell of a slice's number, of any kind, in any world that kept it. -/
theorem cell_kind {w : World} {ao : Option Addr} {cap : Nat} {k : IntKind} {zs : List Int} {m : Nat} (hs : Sl w (.slice ao m cap) (zs.map (Value.int k))) (i : Nat) (hi : i < zs.length) : ∃ b off, ao = some ⟨b, off, none⟩ ∧ ∀ w', Kept Nix w w' → w'.cell? ⟨b, off + i, none⟩ = some (.int k (zs.getD i 0)) := by
  obtain ⟨ao', cap', e, _, _, hp⟩ := hs.ints
  simp only [Value.slice.injEq] at e
  obtain ⟨rfl, -, -⟩ := e
  obtain ⟨b, off, e1, hb, hc⟩ := hp (by omega)
  exact ⟨b, off, e1, fun w' hk' => (World.cell?_of_block (hk'.block _ hb id)).trans (hc i hi)⟩

def ApsInv (vx vw : Value) (ws : List Int) (n : Nat) (w : World) (a : Act) (w' : World) : Prop :=
  a.defers = [] ∧ a.tmps.size = 67 ∧ a.tmps[0]? = some vx ∧ a.tmps[1]? = some vw ∧ a.tmps[5]? = some (.bool true) ∧
  ∃ i : Nat, i ≤ n ∧ a.tmps[8]? = some (.int .i64 (i : Int)) ∧ ∃ u, a.tmps[7]? = some u ∧ w'.ownsRow w.heap.size 3 1 u i (ivs (wts (ws.take i))) ∧ Kept Nix w w'

theorem aps_nums (i n : Nat) (h : i < n) (hn : n ≤ 100) : wrap64 ((i : Int) + 1) = ((i + 1 : Nat) : Int) ∧ (i : Int) < (n : Int) ∧ decide ((i : Int) < (n : Int)) = true ∧ decide (i < n) = true ∧ i + 1 ≤ maxLen ∧ (i + 1) * 8 ≤ 140737488355328 := by
  refine ⟨by unfold wrap64; omega, by omega, decide_eq_true (by omega), decide_eq_true h, by simp only [maxLen]; omega, by omega⟩

set_option maxHeartbeats 1000000 in
theorem walk_WindowApplies (w : World) (vx : Value) (x : List Int) (hx : Sl w vx (x.map (Value.int .i64))) (_ : ∀ n ∈ x, (Lit.int .i64 n).wf = true) (vw : Value) (ws : List Int) (hw : Sl w vw (ws.map (Value.int .u16))) (wf : ∀ n ∈ ws, (Lit.int .u16 n).wf = true) :
    Calls Try.prog 4 #[vx, vw] w fun e w' => e = .returned (.bool true) ∧ Kept Nix w w' := by
  have HA := awake_any w
  obtain ⟨xo, xcap, rfl, -⟩ := hx.ints
  obtain ⟨wo, wcap, rfl, -⟩ := hw.ints
  have HX := Lib.hid (sl_ivs hx)
  have HW := Lib.hid hw
  have WF := Lib.hid wf
  clear hx hw wf
  go_enter Try.func4, Try.ntmps4
  go_upto_region 3 with (first
    | (go_at_call 9; refine HA.mono ?_; rintro e w1 ⟨rfl, k1⟩; have K1 := Lib.hid k1; clear k1; have NR := Lib.hid (rnear_any _ x w1 (HX.out.nix K1.out)))
    | (go_at_call 15; refine NR.out.mono ?_; rintro e w2 ⟨rfl, rfl⟩; clear NR))
  clear HA
  by_cases hlen : 100 < x.length
  · have hd : decide ((100 : Int) < (x.length : Int)) = true := decide_eq_true (by omega)
    clear hlen
    go_wp2
    go_ret
    exact ⟨rfl, K1.out⟩
  have hd : decide ((100 : Int) < (x.length : Int)) = false := decide_eq_false (by omega)
  by_cases hlw : 100 < ws.length
  · have hd2 : decide ((100 : Int) < (ws.length : Int)) = true := decide_eq_true (by omega)
    clear hlen hlw
    go_wp2
    go_ret
    exact ⟨rfl, K1.out⟩
  have hd2 : decide ((100 : Int) < (ws.length : Int)) = false := decide_eq_false (by omega)
  cases hn : near x with
  | false =>
    clear hlen hlw
    go_wp2
    go_ret
    exact ⟨rfl, K1.out⟩
  | true =>
    have HB := Lib.hid (near_bd hn)
    have HLX := Lib.hid (show x.length ≤ 100 by omega)
    have HLW := Lib.hid (show ws.length ≤ 100 by omega)
    clear hlen hlw hn
    generalize hl : ws.length = l at *
    have HL := Lib.hid hl
    clear hl
    go_upto_region 7 with fail
    clear hd hd2
    refine wp_loop (ApsInv (.slice xo x.length xcap) (.slice wo l wcap) ws l w2) (fun a _ => l - (intOf (a.tmps.getD 8 undef)).toNat) ?_ ?_
    · exact ⟨rfl, rfl, rfl, rfl, rfl, 0, Nat.zero_le _, rfl, _, rfl, World.ownsRow_nil _ _ _ _, Kept.refl _ _⟩
    · rintro ⟨tm, df⟩ w3 ⟨rfl, hs, h0, h1, h5, i, hi, h8, u, h7, hou, hkp⟩
      simp only at hs h0 h1 h5 h8 h7
      obtain ⟨f, hf, hg⟩ := fr_open hs
      have e0 := hg _ _ h0
      have e1 := hg _ _ h1
      have e5 := hg _ _ h5
      have e8 := hg _ _ h8
      have e7 := hg _ _ h7
      simp only [List.range, List.range.loop, List.map] at hf
      rw [e0, e1, e5, e8, e7] at hf
      clear e0 e1 e5 e8 e7 hg hs h0 h1 h5 h8 h7
      subst hf
      have HKP := Lib.hid hkp
      have HOU := Lib.hid hou
      clear hkp hou
      by_cases hlt : i < l
      · obtain ⟨b1, o1, rfl, hc1⟩ := cell_kind HW.out i (by rw [HL.out]; exact hlt)
        have c1 := hc1 w3 (nix_trans K1.out HKP.out)
        obtain ⟨n1, n2, n3, n4, n5, n6⟩ := aps_nums i l hlt HLW.out
        obtain ⟨t1, t2⟩ := wt_nums (ws.getD i 0) (WF.out _ (by rw [List.getD_eq_getElem?_getD, List.getElem?_eq_getElem (show i < ws.length by rw [HL.out]; exact hlt)]; exact List.getElem_mem _))
        have N1 := Lib.hid n1
        have N5 := Lib.hid n5
        have N6 := Lib.hid n6
        have HI := Lib.hid hlt
        have HT := Lib.hid (wts_take ws i (by rw [HL.out]; exact hlt))
        clear n1 n5 n6 hlt hi hc1
        generalize ws.getD i 0 = yi at *
        generalize yi % 32769 = q at *
        have O5 := Lib.hid (HOU.out.alloc (.cells #[.int .i64 q] 3))
        go_wp2_with (refine wpList_app _ rfl _ _ 26 rfl w2.heap.size 3 (.int .i64 0) 1 8 Try.underlying26 info_int rfl (by decide) u _ _ rfl O5.out _ 1 1 [.int .i64 q] rfl (src_one w3 _ _ rfl) N5.out N6.out (by have := HKP.out.size; simp; omega) ?_; intro v6 w6 o6 g6 n6; have K6 := Lib.hid (show Kept Nix w2 w6 from (HKP.out.alloc _).grown g6 (fun kk hkk => .inr (O5.out.lt kk hkk).1)); have O6 := Lib.hid o6; clear o6 g6 n6)
        rw [N1.out]
        refine ⟨⟨rfl, rfl, rfl, rfl, rfl, i + 1, HI.out, rfl, v6, rfl, ?_, K6.out⟩, nearer HI.out rfl⟩
        rw [HT.out, ivs_append]
        exact O6.out
      · have hd : decide ((i : Int) < (l : Int)) = false := decide_eq_false (by omega)
        have hd' : decide (i < l) = false := decide_eq_false hlt
        have him : i = l := by omega
        subst him
        have h := HOU.out
        rw [List.take_of_length_le (by rw [HL.out]; exact Nat.le_refl _)] at h
        have HH := Lib.hid h
        have HWB := Lib.hid (wts_bd ws)
        have HWL := Lib.hid ((wts_length ws).trans HL.out)
        have HMX := Lib.hid (show x.length < 1099511627776 by have := HLX.out; omega)
        clear h hlt hi
        by_cases hl : x.length = (wts ws).length
        · have A1 : Hid (∀ w', Kept Nix w3 w' → Calls Try.prog 16 #[.slice xo x.length xcap, u] w' fun e w'' => ∃ u, e = .returned (.tuple #[u, .int .i64 0]) ∧ w''.ownsRow w'.heap.size 3 1 u x.length (ivs (apL x (wts ws))) ∧ Kept Nix w' w'') := Lib.hid (fun w' hk => apply_any _ _ x (wts ws) w' (HX.out.nix (nix_trans (nix_trans K1.out HKP.out) hk)) ((sl_of_owns HH.out).nix hk) hl HB.out HWB.out HMX.out)
          have A2 : Hid (∀ w', Kept Nix w3 w' → Calls Try.prog 17 #[.slice xo x.length xcap, u] w' fun e w'' => ∃ u, e = .returned (.tuple #[u, .int .i64 0]) ∧ w''.ownsRow w'.heap.size 3 1 u x.length (ivs (apL x (wts ws))) ∧ Kept Nix w' w'') := Lib.hid (fun w' hk => rapply_any _ _ x (wts ws) w' (HX.out.nix (nix_trans (nix_trans K1.out HKP.out) hk)) ((sl_of_owns HH.out).nix hk) hl HB.out HWB.out HMX.out)
          have HLA := Lib.hid (show (apL x (wts ws)).length < 1099511627776 by rw [apL_length _ _ hl]; exact HMX.out)
          clear hl
          go_wp2_with (first
            | (go_at_call 16; refine (A1.out _ (Kept.refl _ _)).mono ?_; rintro e w4 ⟨u4, rfl, o4, k4⟩; have O4 := Lib.hid o4; have K4 := Lib.hid k4; clear o4 k4 A1)
            | (go_at_call 17; refine (A2.out _ K4.out).mono ?_; rintro e w5 ⟨u5, rfl, o5, k5⟩; have K5 := Lib.hid (nix_trans K4.out k5); have I1 := Lib.hid (ints_eq ((sl_of_owns O4.out).nix k5) (sl_of_owns o5) HLA.out rfl); clear o5 k5 A2)
            | (go_at_call 14; refine I1.out.mono ?_; rintro e w6 ⟨rfl, nn, rfl⟩; have K6 := Lib.hid (K5.out.drewN nn); clear I1; generalize w5.drewN nn = w6 at *))
          go_ret
          exact ⟨rfl, nix_trans (nix_trans K1.out HKP.out) K6.out⟩
        · have A1 := Lib.hid (apply_bad _ _ x (wts ws) w3 (HX.out.nix (nix_trans K1.out HKP.out)) (sl_of_owns HH.out) hl)
          have A2 := Lib.hid (rapply_bad _ _ x (wts ws) w3 (HX.out.nix (nix_trans K1.out HKP.out)) (sl_of_owns HH.out) hl)
          have I1 := Lib.hid (ints_eq (A := []) (B := []) (sl_of_owns (World.ownsRow_nil w3 0 3 1)) (sl_of_owns (World.ownsRow_nil w3 0 3 1)) (by decide) rfl)
          clear hl
          go_wp2_with (first
            | (go_at_call 16; refine A1.out.mono ?_; rintro e w4 ⟨rfl, rfl⟩; clear A1)
            | (go_at_call 17; refine A2.out.mono ?_; rintro e w5 ⟨rfl, rfl⟩; clear A2)
            | (go_at_call 14; refine I1.out.mono ?_; rintro e w6 ⟨rfl, nn, rfl⟩; have K6 := Lib.hid ((nix_trans K1.out HKP.out).drewN nn); clear I1; generalize w3.drewN nn = w6 at *))
          go_ret
          exact ⟨rfl, K6.out⟩

end Go.Proofs.Ytcenfidenmppcaa
