/- The walk of WindowSplits. -/
import Derived.Test.YtcenfidenmppcaaLMiddle8
import Derived.Test.YtcenfidenmppcaaAppG
import Derived.Deep.RegionHeld3
namespace Go.Proofs.Ytcenfidenmppcaa
open Go.RowKit Bx

theorem wl_bd1 (s : Int) (m : Nat) (hm : m ≤ 65535) : ∀ n ∈ wl s m, 0 ≤ n ∧ n ≤ 32768 := fun n hn => by
  have := wl_bd s m hm n hn
  omega

theorem apL_take (x ws : List Int) (k : Nat) : apL (x.take k) (ws.take k) = (apL x ws).take k := by simp [apL, List.take_zipWith]
theorem apL_drop (x ws : List Int) (k : Nat) : apL (x.drop k) (ws.drop k) = (apL x ws).drop k := by simp [apL, List.drop_zipWith]
theorem bd_take {M : Int} {x : List Int} (h : Bd M x) (k : Nat) : Bd M (x.take k) := by
  apply bd_of_mem
  intro n hn
  exact h.mem n (List.mem_of_mem_take hn)
theorem bd_drop {M : Int} {x : List Int} (h : Bd M x) (k : Nat) : Bd M (x.drop k) := by
  apply bd_of_mem
  intro n hn
  exact h.mem n (List.mem_of_mem_drop hn)

theorem sl_drop_i {w : World} {ao : Option Addr} {len cap : Nat} {zs : List Int} (h : Sl w (.slice ao len cap) (ivs zs)) (k : Nat) (hk : k ≤ len) : Sl w (.slice (if cap = k then ao else ao.map (fun x => x.add k)) (len - k) (cap - k)) (ivs (zs.drop k)) := by
  have e : ivs (zs.drop k) = (ivs zs).drop k := by simp [ivs]
  rw [e]
  exact h.drop k hk

theorem src_row {w w' : World} {base n : Nat} {ao : Option Addr} {cap : Nat} {zs : List Int} (h : w.ownsRow base 3 1 (.slice ao n cap) n (ivs zs)) (hk : Kept Nix w w') : SrcIs w' 1 ao n cap (ivs zs) := by
  obtain ⟨ao', c', e, hs⟩ := src_of_sl ((sl_of_owns h).nix hk) (ivs_one _)
  simp only [Value.slice.injEq] at e
  obtain ⟨rfl, rfl, rfl⟩ := e
  exact hs

theorem sl_joined {w : World} {v : Value} {R : List Int} {k : Nat} (h : Sl w v ([] ++ ivs (R.take k) ++ ivs (R.drop k))) : Sl w v (ivs R) := by
  rwa [List.nil_append, ← ivs_append, List.take_append_drop] at h

/-- Apply, of a part of the numbers. -/
theorem apply_part {x ws : List Int} {k : Nat} {R : List Int} (vx vw : Value) (w : World) (sx : Sl w vx (ivs x)) (sw : Sl w vw (ivs ws)) (hl : x.length = k) (hl2 : ws.length = k) (hx : Bd 1099511627776 x) (hw : ∀ n ∈ ws, 0 ≤ n ∧ n ≤ 32768) (hm : k < 1099511627776) (hR : apL x ws = R) :
    Calls Try.prog 16 #[vx, vw] w fun e w' => ∃ u, e = .returned (.tuple #[u, .int .i64 0]) ∧ w'.ownsRow w.heap.size 3 1 u k (ivs R) ∧ Kept Nix w w' := by
  have h := apply_any vx vw x ws w sx sw (by omega) hx hw (by omega)
  unfold ApPost at h
  rwa [hl, hR] at h

set_option maxHeartbeats 4000000 in
theorem walk_WindowSplits (w : World) (vx : Value) (x : List Int) (hx : Sl w vx (x.map (Value.int .i64))) (_ : ∀ n ∈ x, (Lit.int .i64 n).wf = true) (shape : Int) (wsh : (Lit.int .u8 shape).wf = true) (pos : Int) (wp : (Lit.int .u8 pos).wf = true) :
    Calls Try.prog 7 #[vx, .int .u8 shape, .int .u8 pos] w fun e w' => e = .returned (.bool true) ∧ Kept Nix w w' := by
  have HA := awake_any w
  obtain ⟨xo, xcap, rfl, hxc, -⟩ := hx.ints
  obtain ⟨s, s1, s2, s3⟩ := shape_nums shape wsh
  obtain ⟨p, rfl, hp⟩ := nat_u8 wp
  have HX := Lib.hid (sl_ivs hx)
  have S3 := Lib.hid s3
  have S1 := Lib.hid s1
  have S2 := Lib.hid s2
  have HXC := Lib.hid hxc
  have HP := Lib.hid hp
  clear hx wsh s3 s1 s2 wp hp hxc
  go_enter Try.func7, Try.ntmps7
  go_upto_region 3 with (first
    | (go_at_call 9; refine HA.mono ?_; rintro e w1 ⟨rfl, k1⟩; have K1 := Lib.hid k1; clear k1; have NR := Lib.hid (rnear_any _ x w1 (HX.out.nix K1.out)))
    | (go_at_call 15; refine NR.out.mono ?_; rintro e w2 ⟨rfl, rfl⟩; clear NR))
  clear HA
  by_cases hlen : 100 < x.length
  · have hd : decide ((100 : Int) < (x.length : Int)) = true := decide_eq_true (by omega)
    clear hlen
    go_wp2
    go_ret
    exact ⟨rfl, K1.out⟩
  have hd : decide ((100 : Int) < (x.length : Int)) = false := decide_eq_false (by omega)
  cases hn : near x with
  | false =>
    clear hlen
    go_wp2
    go_ret
    exact ⟨rfl, K1.out⟩
  | true =>
    have HB := Lib.hid (near_bd hn)
    have HLX := Lib.hid (show x.length ≤ 100 by omega)
    clear hlen hn
    generalize hl : x.length = l at *
    have HL := Lib.hid hl
    clear hl
    have W1 := Lib.hid (weights_ok s l w2 S3.out (by have := HLX.out; omega))
    have hll : ((l : Int) != (l : Int)) = false := bne_self_eq_false _
    have hmin : (if l < p then (l : Int) else (p : Int)) = ((min p l : Nat) : Int) := by split <;> omega
    have hwp : wrap64 (p : Int) = (p : Int) := by have := HP.out; unfold wrap64; omega
    have HK := Lib.hid (show min p l ≤ l from Nat.min_le_right _ _)
    generalize min p l = k at *
    have s1 := S1.out
    have s2 := S2.out
    go_upto_region 9 with (first
      | (go_at_call 12; refine W1.out.mono ?_; rintro e w3 ⟨u3, rfl, o3, k3⟩; have K3 := Lib.hid (nix_trans K1.out k3); have O3 := Lib.hid o3; obtain ⟨ao3, cap3, rfl, c31, c32⟩ := owns_shape o3; have C31 := Lib.hid c31; clear o3 k3 W1 c31 c32))
    clear hd hll s1 s2 hmin hwp
    have M1 := Lib.hid (show l < 1099511627776 by have := HLX.out; omega)
    have HWL := Lib.hid (wl_length s l)
    have HWB := Lib.hid (wl_bd1 s l (by have := HLX.out; omega))
    have HAL := Lib.hid ((apL_length x (wl s l) (by rw [HWL.out]; exact HL.out)).trans HL.out)
    have P1 := Lib.hid (fun w' (hk : Kept Nix w3 w') => apply_part (k := k) (.slice xo k xcap) (.slice ao3 k cap3) w' (sl_take_i (HX.out.nix (nix_trans K3.out hk)) k HK.out) (sl_take_i ((sl_of_owns O3.out).nix hk) k HK.out) (by rw [List.length_take, HL.out]; have := HK.out; omega) (by rw [List.length_take, HWL.out]; have := HK.out; omega) (bd_take HB.out k) (fun n hn => HWB.out n (List.mem_of_mem_take hn)) (by have := HK.out; have := M1.out; omega) (apL_take x (wl s l) k))
    have P2 := Lib.hid (fun w' (hk : Kept Nix w3 w') => apply_part (k := l - k) _ _ w' (sl_drop_i (HX.out.nix (nix_trans K3.out hk)) k HK.out) (sl_drop_i ((sl_of_owns O3.out).nix hk) k HK.out) (by rw [List.length_drop, HL.out]) (by rw [List.length_drop, HWL.out]) (bd_drop HB.out k) (fun n hn => HWB.out n (List.mem_of_mem_drop hn)) (by have := HK.out; have := M1.out; omega) (apL_drop x (wl s l) k))
    have P3 := Lib.hid (fun w' (hk : Kept Nix w3 w') => apply_part (.slice xo l xcap) (.slice ao3 l cap3) w' (HX.out.nix (nix_trans K3.out hk)) ((sl_of_owns O3.out).nix hk) HL.out HWL.out HB.out HWB.out M1.out rfl)
    have hf1 := fun w => run_upto_i w xo l xcap k (Nat.le_trans HK.out HXC.out)
    have hf2 := fun w => run_upto_i_at w xo l xcap k (Nat.le_trans HK.out HXC.out)
    have hf3 := fun w => run_upto_i w ao3 l cap3 k (Nat.le_trans HK.out C31.out)
    have hf4 := fun w => run_upto_i_at w ao3 l cap3 k (Nat.le_trans HK.out C31.out)
    go_region_held3 (fun _ => True) (trivial) (first | (go_at_call 16; refine (P1.out _ (Kept.refl _ _).drew).mono ?_; rintro e w4 ⟨u4, rfl, o4, k4⟩; have O4 := Lib.hid o4; have K4 := Lib.hid (nix_trans (Kept.refl _ _).drew k4); clear o4 k4 P1))
    clear hf1 hf2 hf3 hf4
    go_upto_region 10 with fail
    have hf1 := fun w => run_from_i w xo l xcap k HK.out
    have hf2 := fun w => run_from_i_at w xo l xcap k HK.out
    have hf3 := fun w => run_from_i w ao3 l cap3 k HK.out
    have hf4 := fun w => run_from_i_at w ao3 l cap3 k HK.out
    generalize (if xcap = k then xo else xo.map (fun x => x.add k)) = xoV at *
    generalize (if cap3 = k then ao3 else ao3.map (fun x => x.add k)) = aoV at *
    generalize hm : l - k = m at *
    generalize xcap - k = xcV at *
    generalize cap3 - k = acV at *
    have HM := Lib.hid hm
    clear hm
    go_region_held3 (fun _ => True) (trivial) (first | (go_at_call 16; refine (P2.out _ K4.out.drew).mono ?_; rintro e w5 ⟨u5, rfl, o5, k5⟩; have O5 := Lib.hid o5; have K5 := Lib.hid (nix_trans K4.out.drew k5); have Q4 := Lib.hid (k5.owns (w := w4.drew) O4.out (fun _ _ h => h)); clear o5 k5 P2 O4))
    clear hf1 hf2 hf3 hf4
    go_upto_region 12 with (go_at_call 16; refine (P3.out _ K5.out).mono ?_; rintro e w6 ⟨u6, rfl, o6, k6⟩; have O6 := Lib.hid o6; have K6 := Lib.hid (nix_trans K5.out k6); have R4 := Lib.hid (k6.owns Q4.out (fun _ _ h => h)); have R5 := Lib.hid (k6.owns O5.out (fun _ _ h => h)); clear o6 k6 P3 Q4 O5)
    obtain ⟨ao4, c4, rfl, -, -⟩ := owns_shape R4.out
    obtain ⟨ao5, c5, rfl, -, -⟩ := owns_shape R5.out
    have S4 := Lib.hid (fun w' (hk : Kept Nix w6 w') => src_row R4.out hk)
    have S5 := Lib.hid (fun w' (hk : Kept Nix w6 w') => src_row R5.out hk)
    have OB := Lib.hid (show (w6.alloc (.cells #[] 3)).ownsRow w6.heap.size 3 1 (.slice (some ⟨w6.heap.size, 0, none⟩) 0 0) 0 [] from lit_row w6 [] 0 rfl (by decide))
    have B1 := Lib.hid (show 0 + k ≤ maxLen ∧ (0 + k) * 8 ≤ 140737488355328 ∧ 0 + k + m ≤ maxLen ∧ (0 + k + m) * 8 ≤ 140737488355328 by have := HLX.out; have := HK.out; have := HM.out; simp only [maxLen]; omega)
    clear R4 R5
    go_wp2_with (first
      | (refine wpList_app_w _ (by rfl) (.tmp 92) (.tmp 93) 26 rfl w6.heap.size 3 (.int .i64 0) 1 8 Try.underlying26 info_int rfl (by decide) _ 0 _ rfl OB.out _ k c4 _ rfl (S4.out _ ((Kept.refl _ w6).alloc _)) B1.out.1 B1.out.2.1 (by simp) ?_; intro v7 w7 o7 g7 n7; have K7 := Lib.hid (show Kept Nix w6 w7 from ((Kept.refl _ w6).alloc _).grown g7 (fun kk hkk => .inr (OB.out.lt kk hkk).1)); have O7 := Lib.hid o7; clear o7 g7 n7)
      | (refine wpList_app_w _ (by rfl) (.tmp 94) (.tmp 95) 26 rfl w6.heap.size 3 (.int .i64 0) 1 8 Try.underlying26 info_int rfl (by decide) _ _ _ rfl O7.out _ m c5 _ rfl (S5.out _ K7.out) B1.out.2.2.1 B1.out.2.2.2 K7.out.size ?_; intro v8 w8 o8 g8 n8; have K8 := Lib.hid (show Kept Nix w6 w8 from K7.out.grown g8 (fun kk hkk => .inr (O7.out.lt kk hkk).1)); have I1 := Lib.hid (ints_eq (sl_joined (sl_of_owns o8)) ((sl_of_owns O6.out).nix K8.out) (by rw [HAL.out]; exact M1.out) rfl); clear o8 g8 n8)
      | (go_at_call 14; refine I1.out.mono ?_; rintro e w9 ⟨rfl, nn, rfl⟩; have K9 := Lib.hid (K8.out.drewN nn); clear I1; generalize w8.drewN nn = w9 at *))
    go_ret
    exact ⟨rfl, nix_trans (nix_trans K3.out K6.out) K9.out⟩

end Go.Proofs.Ytcenfidenmppcaa
