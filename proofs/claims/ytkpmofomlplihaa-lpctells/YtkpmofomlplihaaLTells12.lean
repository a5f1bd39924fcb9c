/- The walk of LpcTells. -/
import Derived.Test.YtkpmofomlplihaaAwake12
import Derived.Test.YtkpmofomlplihaaRLpcRes
import Derived.Test.YtkpmofomlplihaaArgLpc
namespace Go.Proofs.Ytkpmofomlplihaa
open Go.RowKit Bx

theorem lresL_len (s p : Int) (F x : List Int) (h : x.length < 1000000) : (lresL s p F x).length < 1099511627776 := by
  unfold lresL
  split
  · rw [lft_length]; omega
  · decide

set_option maxRecDepth 10000 in
set_option maxHeartbeats 4000000 in
theorem walk_LpcTells (w : World) (v : Value) (x : List Int) (hx : Sl w v (x.map (Value.int .i64))) (_ : ∀ n ∈ x, (Lit.int .i64 n).wf = true)
    (s p : Int) (_ : (Lit.int .i64 s).wf = true) (_ : (Lit.int .i64 p).wf = true) (u : Value) (F : List Int) (hu : Sl w u (F.map (Value.int .i64))) (_ : ∀ n ∈ F, (Lit.int .i64 n).wf = true) :
    Calls Try.prog 3 #[v, .agg #[.int .i64 s, .int .i64 p, u]] w fun e w' => e = .returned (.bool true) ∧ Kept Nix w w' := by
  have hu' := sl_ivs hu
  have hx' := sl_ivs hx
  obtain ⟨ao, ca, rfl, -⟩ := hu'.ints
  obtain ⟨bo, cb, rfl, -⟩ := hx'.ints
  have k1 : Kept Nix w (w.alloc (.cells #[.int .i64 s, .int .i64 p, .slice ao F.length ca] 24)) := (Kept.refl _ w).alloc _
  have HB := Lib.hid (fun w' (k : Kept Nix (w.alloc (.cells #[.int .i64 s, .int .i64 p, .slice ao F.length ca] 24)) w') => k.heap (heap_alloc_new w (.cells #[.int .i64 s, .int .i64 p, .slice ao F.length ca] 24)) id)
  have CC := Lib.hid (fun w' k => lpc_cells w s p (.slice ao F.length ca) 24 w' k)
  have HU := Lib.hid (hu'.nix k1)
  have HX := Lib.hid (hx'.nix k1)
  have K1 := Lib.hid k1
  clear hu hx hu' hx' k1
  go_enter Try.func3, Try.ntmps3
  go_upto_region 1 with fail
  generalize w.alloc (.cells #[.int .i64 s, .int .i64 p, .slice ao F.length ca] 24) = w1 at *
  generalize w.heap.size = g at *
  have HA := Lib.hid (awake_any w1)
  go_upto_region 3 with (first
    | (go_at_call 10; refine HA.out.mono ?_; rintro e w2 ⟨rfl, k2⟩; have K2 := Lib.hid k2; clear k2 HA; have NR := Lib.hid (rnear_any _ x w2 (HX.out.nix K2.out)))
    | (go_at_call 11; refine NR.out.mono ?_; rintro e w3 ⟨rfl, rfl⟩; clear NR))
  by_cases hlen : 80 < x.length
  · have hd : decide ((80 : Int) < (x.length : Int)) = true := decide_eq_true (by omega)
    clear hlen
    go_wp2
    go_ret
    exact ⟨rfl, nix_trans K1.out K2.out⟩
  have hd : decide ((80 : Int) < (x.length : Int)) = false := decide_eq_false (by omega)
  cases hn : near x with
  | false =>
    clear hlen
    go_wp2
    go_ret
    exact ⟨rfl, nix_trans K1.out K2.out⟩
  | true =>
    obtain ⟨y0, y1, y2⟩ := CC.out _ K2.out
    by_cases hlF : 40 < F.length
    · have hd2 : decide ((40 : Int) < (F.length : Int)) = true := decide_eq_true (by omega)
      clear hlen hlF
      go_wp2
      go_ret
      exact ⟨rfl, nix_trans K1.out K2.out⟩
    have hd2 : decide ((40 : Int) < (F.length : Int)) = false := decide_eq_false (by omega)
    have HNB := Lib.hid (near_bd hn)
    have RS1 := Lib.hid (lres_any s p _ _ F x w3 (HU.out.nix K2.out) (HX.out.nix K2.out) HNB.out (by omega))
    have RS2 := Lib.hid (fun w' (k : Kept Nix w3 w') => rlres_any s p _ _ F x w' (HU.out.nix (nix_trans K2.out k)) (HX.out.nix (nix_trans K2.out k)) HNB.out (by omega))
    have C1 := Lib.hid (fun w' (k : Kept Nix w3 w') => check_any s p _ F w' (HU.out.nix (nix_trans K2.out k)))
    have C2 := Lib.hid (fun w' (k : Kept Nix w3 w') => rcheck_any s p _ F w' (HU.out.nix (nix_trans K2.out k)))
    have HLL := Lib.hid (lresL_len s p F x (by omega))
    have HB3 := Lib.hid (fun w' (k : Kept Nix w3 w') => HB.out w' (nix_trans K2.out k))
    have CC3 := Lib.hid (fun w' (k : Kept Nix w3 w') => CC.out w' (nix_trans K2.out k))
    unfold LResPost at RS1 RS2
    clear hlen hlF hn
    generalize lresE s p F x = E at *
    generalize lresL s p F x = L at *
    generalize lpcE s p F = D at *
    generalize x.length = l at *
    generalize F.length = n at *
    have hee : (E == E) = true := beq_self_eq_true _
    have hdd : (D == D) = true := beq_self_eq_true _
    go_upto_region 7 with (first
      | (refine wpList_load_row rfl 24 _ rfl g rfl 24 _ (0, 0) _ (HB3.out _ (Kept.refl _ _)) Try.underlying24 rfl size_lpc ?_)
      | (refine wpList_load_row rfl 24 _ rfl g rfl 24 _ (0, 0) _ (HB3.out _ K4.out) Try.underlying24 rfl size_lpc ?_)
      | (go_at_call 12; refine RS1.out.mono ?_; rintro e w4 ⟨u4, rfl, o4, k4⟩; clear RS1; have K4 := Lib.hid k4; have S4 := Lib.hid (sl_of_owns o4); clear k4 o4)
      | (go_at_call 13; refine (RS2.out _ K4.out).mono ?_; rintro e w5 ⟨u5, rfl, o5, k5⟩; clear RS2; have K5 := Lib.hid (nix_trans K4.out k5); have S5 := Lib.hid (sl_of_owns o5); have S4' := Lib.hid (S4.out.nix k5); clear k5 o5))
    clear hd hd2 y0 y1 y2
    have KD := Lib.hid (K5.out.drew)
    have II := Lib.hid (fun w' (k : Kept Nix w5 w') => ints_eq (S4'.out.nix k) (S5.out.nix k) HLL.out rfl)
    have D5 := Lib.hid ((Kept.refl Nix w5).drew)
    have KW := Lib.hid (nix_trans K1.out (nix_trans K2.out K5.out))
    go_region_held3 (fun w' => w'.cell? ⟨g, 0, none⟩ = some (.int .i64 s) ∧ w'.cell? ⟨g, 1, none⟩ = some (.int .i64 p) ∧ w'.cell? ⟨g, 2, none⟩ = some (.slice ao n ca))
      (first | exact CC3.out _ (nix_trans K5.out DI.out) | exact CC3.out _ (nix_trans K5.out DC.out) | exact CC3.out _ (nix_trans K5.out DR.out) | exact CC3.out _ KD.out)
      (first
        | (go_at_call 14; first
            | (refine (C1.out _ (nix_trans K5.out DR.out)).mono ?_; rintro e wc ⟨rfl, kc⟩; have DC := Lib.hid (nix_trans DR.out kc); clear kc)
            | (refine (C1.out _ KD.out).mono ?_; rintro e wc ⟨rfl, kc⟩; have DC := Lib.hid (nix_trans D5.out kc); clear kc))
        | (go_at_call 15; first
            | (refine (C2.out _ (nix_trans K5.out DC.out)).mono ?_; rintro e wr ⟨rfl, kr⟩; have DR := Lib.hid (nix_trans DC.out kr); clear kr)
            | (refine (C2.out _ KD.out).mono ?_; rintro e wr ⟨rfl, kr⟩; have DR := Lib.hid (nix_trans D5.out kr); clear kr))
        | (go_at_call 16; first
            | (refine (II.out _ DC.out).mono ?_; rintro e wi ⟨rfl, ni, hwi⟩; have DI := Lib.hid (show Kept Nix w5 wi by rw [hwi]; exact DC.out.drewN ni); clear hwi)
            | (refine (II.out _ DR.out).mono ?_; rintro e wi ⟨rfl, ni, hwi⟩; have DI := Lib.hid (show Kept Nix w5 wi by rw [hwi]; exact DR.out.drewN ni); clear hwi)))
    all_goals
      go_wp2
      go_ret
      exact ⟨rfl, nix_trans KW.out DI.out⟩

end Go.Proofs.Ytkpmofomlplihaa
