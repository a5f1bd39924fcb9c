/- The walk of SectionCuts. -/
import Derived.Test.YtlbnjclchmnomaaAwake15
import Derived.Test.YtlbnjclchmnomaaSecTake
import Derived.Test.YtlbnjclchmnomaaSecWalk
import Derived.Test.YtlbnjclchmnomaaPk24
import Derived.Test.YtlbnjclchmnomaaPk25
import Derived.Test.YtlbnjclchmnomaaPk10
namespace Go.Proofs.Ytlbnjclchmnomaa
open Go.RowKit Bx

def CutsInv (vx v1 v2 v3 : Value) (l b : Nat) (Y : List Int) (w : World) (a : Act) (w' : World) : Prop :=
  a.defers = [] ∧ a.tmps.size = 113 ∧ a.tmps[0]? = some vx ∧ a.tmps[1]? = some v1 ∧ a.tmps[2]? = some v2 ∧ a.tmps[3]? = some v3 ∧ a.tmps[9]? = some (.bool true) ∧ ∃ i : Nat, i ≤ l ∧ a.tmps[11]? = some (.int .i64 (i : Int)) ∧ ∃ u, a.tmps[10]? = some u ∧ w'.ownsRow b 3 1 u i (ivs (Y.take i)) ∧ Kept Nix w w'

theorem run_upto_b (w : World) (ao : Option Addr) (len cap k : Nat) (h : k ≤ cap) : (Instr.slice 26 (.slice ao len cap) none (some (.int .i64 (k : Int))) none).run Try.prog w = .ok (.slice ao k cap) w := by
  have ht : Try.prog.underlying 26 = some (.slice (Try.prog.elem 26)) := by rw [elem_bytes]; exact Try.underlying26
  rw [run_slice_h w 26 ao len cap ht .i64 (k : Int) (by omega) (by omega), elem_bytes, size_u8]
  cases ao with
  | none => simp [sliced]
  | some a => simp [sliced, Addr.add]

theorem run_upto_b_at (w : World) (ao : Option Addr) (len cap k : Nat) (h : k ≤ cap) : (Instr.sliceAt 26 (.slice ao len cap) none (some (.int .i64 (k : Int))) none).run Try.prog w = .ok (.slice ao k cap) w := by
  have ht : Try.prog.underlying 26 = some (.slice (Try.prog.elem 26)) := by rw [elem_bytes]; exact Try.underlying26
  rw [run_sliceAt_slice w 26 _ _ _ _ ht, run_upto_b w ao len cap k h]

set_option maxRecDepth 10000 in
set_option maxHeartbeats 8000000 in
theorem walk_SectionCuts (w : World) (v : Value) (x : List Int) (hx : Sl w v (x.map (Value.int .i32))) (hw : ∀ n ∈ x, (Lit.int .i32 n).wf = true)
    (order : Int) (ho : (Lit.int .u8 order).wf = true) (most : Int) (hm : (Lit.int .u8 most).wf = true) (cut : Int) (hcut : (Lit.int .u16 cut).wf = true) :
    Calls Try.prog 5 #[v, .int .u8 order, .int .u8 most, .int .u16 cut] w fun e w' => e = .returned (.bool true) ∧ Kept Nix w w' := by
  obtain ⟨K, J, h1, h2, r1, r2, r3, r4⟩ := law_mods ho hm
  obtain ⟨xo, xc, rfl, -⟩ := hx.ints
  obtain ⟨cn, rfl, hcn⟩ := nat_u16 hcut
  have HCN := Lib.hid hcn
  have HX := Lib.hid hx
  have HKJ := Lib.hid (And.intro h1 h2)
  have HA := Lib.hid (awake_any w)
  have HYB := Lib.hid (tm20_bd x)
  have HYN := Lib.hid (tm20_near x)
  have HYF := Lib.hid (tm20_far x)
  have HY := Lib.hid (tm20_length x)
  have HYG := Lib.hid (fun i hi => And.intro (tm20_get x i hi) (bounds_i32 (hw _ (show x.getD i 0 ∈ x by simp [List.getD, hi]))))
  have R := Lib.hid (And.intro r1 (And.intro r2 (And.intro r3 r4)))
  clear hx hw ho hm hcut hcn h1 h2 r1 r2 r3 r4
  go_enter Try.func5, Try.ntmps5
  go_upto_region 2 with (go_at_call 6; refine HA.out.mono ?_; rintro e w1 ⟨rfl, k1⟩; have K1 := Lib.hid k1; clear k1)
  clear HA
  by_cases hlen : 60 < x.length
  · have hd : decide ((60 : Int) < (x.length : Int)) = true := decide_eq_true (by omega)
    clear hlen
    go_wp2
    go_ret
    exact ⟨rfl, K1.out⟩
  have hd : decide ((60 : Int) < (x.length : Int)) = false := decide_eq_false (by omega)
  have HL := Lib.hid (show x.length ≤ 60 by omega)
  clear hlen
  by_cases h0 : x.length = 0
  · have t0 : ((x.length : Int) == 0) = true := by simp [h0]
    clear h0
    go_wp2
    go_ret
    exact ⟨rfl, K1.out⟩
  have t0 : ((x.length : Int) == 0) = false := by rw [beq_eq_false_iff_ne]; omega
  have H0 := Lib.hid (show 0 < x.length by omega)
  clear h0
  go_wp2
  clear hd t0
  have HOWN := Lib.hid (World.ownsRow_nil w1 w1.heap.size 3 1)
  generalize hY : tm20 x = Y at *
  clear hY
  generalize hl : x.length = l at *
  have HLE := Lib.hid hl
  clear hl
  refine wp_loop (CutsInv (.slice xo l xc) (.int .u8 order) (.int .u8 most) (.int .u16 (cn : Int)) l w1.heap.size Y w1) (fun a _ => l - (intOf (a.tmps.getD 11 undef)).toNat) ?_ ?_
  · exact ⟨rfl, rfl, rfl, rfl, rfl, rfl, rfl, 0, Nat.zero_le _, rfl, _, rfl, HOWN.out, Kept.refl _ _⟩
  · clear HOWN
    rintro ⟨tm, df⟩ w2 ⟨rfl, hs, e0, e1, e2, e3, e9, i, hi, e11, u, e10, ho, hk⟩
    simp only at hs e0 e1 e2 e3 e9 e11 e10
    obtain ⟨f, hf, hg⟩ := fr_open hs
    have g0 := hg _ _ e0
    have g1 := hg _ _ e1
    have g2 := hg _ _ e2
    have g3 := hg _ _ e3
    have g9 := hg _ _ e9
    have g10 := hg _ _ e10
    have g11 := hg _ _ e11
    simp only [List.range, List.range.loop, List.map] at hf
    rw [g0, g1, g2, g3, g9, g10, g11] at hf
    clear g0 g1 g2 g3 g9 g10 g11 hg hs e0 e1 e2 e3 e9 e11 e10
    subst hf
    have HO := Lib.hid ho
    have HK := Lib.hid hk
    clear ho hk
    by_cases hlt : i < l
    · obtain ⟨b1, o1, rfl, hc1⟩ := cell_sort HX.out i (by rw [HLE.out]; exact hlt)
      have x1 := hc1 w2 (nix_trans K1.out HK.out)
      obtain ⟨q1, q2⟩ := HYG.out i hlt
      have h1 : wrap64 (x.getD i 0) = x.getD i 0 := w64_in _ (by omega)
      have h2 : (x.getD i 0).tmod 1048577 = Y.getD i 0 := q1.symm
      obtain ⟨m1, m2, m3, m4⟩ := grow_step i l hlt (by have := HL.out; omega)
      have HST := Lib.hid (tk_next (L := Y) (i := i) (by rw [HY.out]; exact hlt))
      have M1 := Lib.hid m1
      have M3 := Lib.hid m3
      have M4 := Lib.hid m4
      have HI := Lib.hid hlt
      have hdd : decide (i < l) = true := decide_eq_true hlt
      clear hc1 q1 q2 hlt hi m1 m3 m4
      generalize Y.getD i 0 = y at *
      generalize x.getD i 0 = xi at *
      have O5 := Lib.hid (HO.out.alloc (.cells #[.int .i64 y] 3))
      have HBS := Lib.hid (show w1.heap.size ≤ (w2.alloc (.cells #[.int .i64 y] 3)).heap.size from (HK.out.alloc _).size)
      go_wp2_with (refine wpList_app _ rfl _ _ 22 rfl w1.heap.size 3 (.int .i64 0) 1 8 Try.underlying22 info_int rfl (by decide) _ _ _ rfl O5.out _ 1 1 [.int .i64 y] rfl (src_one w2 _ _ rfl) M3.out M4.out HBS.out ?_
                   intro v6 w6 o6 g6 n6; have k6 : Kept Nix w1 w6 := (HK.out.alloc _).grown g6 (fun kk hkk => .inr (O5.out.lt kk hkk).1); have K6 := Lib.hid k6; have O6 := Lib.hid o6; clear k6 o6 g6 n6)
      rw [M1.out]
      refine ⟨⟨rfl, rfl, rfl, rfl, rfl, rfl, rfl, i + 1, HI.out, rfl, v6, rfl, ?_, K6.out⟩, nearer HI.out rfl⟩
      rw [HST.out, ivs_append]
      exact O6.out
    · have hie : i = l := by omega
      subst hie
      have hdd : decide (i < i) = false := decide_eq_false hlt
      have ho := HO.out
      rw [List.take_of_length_le (by rw [HY.out]; exact Nat.le_refl _)] at ho
      obtain ⟨uo, uc, rfl, hc, -⟩ := owns_shape ho
      have SY := Lib.hid (sl_of_owns ho)
      have K2 := Lib.hid (nix_trans K1.out HK.out)
      have HNL := Lib.hid (show 0 < Y.length ∧ Y.length ≤ 60 by rw [HY.out]; exact ⟨H0.out, HL.out⟩)
      clear ho hc hlt hi HO HK HX HYG K1
      obtain ⟨r1, r2, r3, r4⟩ := R.out
      have B1 := Lib.hid (pbest_any _ Y (K : Int) (J : Int) true w2 SY.out (by have := HNL.out; omega))
      unfold PBPost at B1
      have q3 := (pb_told HKJ.out.1 HKJ.out.2 HNL.out.1 HYN.out true).1
      rw [q3] at B1
      obtain ⟨q1, q2⟩ := least_best HKJ.out.1 HKJ.out.2 HNL.out.1 HYN.out true
      obtain ⟨p1, p2, p3, p4⟩ := best_put HKJ.out.1 HKJ.out.2 HNL.out.1 HNL.out.2 HYB.out HYN.out true
      rw [← q1] at p3 p4
      obtain ⟨p5, p6⟩ := spE_good p1 p2
      have p7 := secB_len (o := (pbO Y (K : Int) (J : Int) true).toNat) p1
      rw [← p6, q1] at p7
      rw [q1] at p3 p4
      have P12 := Lib.hid (And.intro p1 p2)
      have P5 := Lib.hid p5
      have P7 := Lib.hid p7
      have P4 := Lib.hid p4
      clear q1 q2 q3 p1 p2 p3 p4 p5 p6 p7
      generalize pbW Y (K : Int) (J : Int) true = W1 at *
      generalize pbO Y (K : Int) (J : Int) true = O1 at *
      generalize pbP Y (K : Int) (J : Int) true = P1 at *
      generalize pbN Y (K : Int) (J : Int) true = N1 at *
      generalize hs2 : w1.heap.size = g1 at *
      clear hs2
      go_upto_region 11 with (go_at_call 18; refine B1.out.mono ?_; rintro e w5 ⟨u1, rfl, o1, k5⟩; have T1 := Lib.hid (pts_of_owns o1); obtain ⟨u1o, u1c, rfl, -⟩ := owns_shape o1; have K5 := Lib.hid k5; clear k5 o1 B1)
      have H6 := Lib.hid (heap_alloc_new w5 (.cells #[.bool W1, .int .i64 O1, .slice u1o P1.length u1c] 25))
      have K56 := Lib.hid ((Kept.refl Nix w5).alloc (.cells #[.bool W1, .int .i64 O1, .slice u1o P1.length u1c] 25))
      generalize w5.alloc (.cells #[.bool W1, .int .i64 O1, .slice u1o P1.length u1c] 25) = w6 at *
      generalize w5.heap.size = g6 at *
      have K26 := Lib.hid (nix_trans K5.out K56.out)
      have SY6 := Lib.hid (SY.out.nix K26.out)
      have T6 := Lib.hid (T1.out.nix K56.out)
      have K6 := Lib.hid (nix_trans K2.out K26.out)
      clear SY T1 K5 K56 K26 K2
      have HN := Lib.hid (new_any w6.heap.size w6 (Nat.le_refl _))
      go_upto_region 12 with (go_at_call 8; refine HN.out.mono ?_; rintro e w7 ⟨p, rfl, hp, hw7, hk7⟩; have HP := Lib.hid hp; have W7 := Lib.hid hw7; have K67 := Lib.hid hk7; clear hp hw7 hk7)
      clear HN
      have hdis : ∀ j, Only p (.slice none 0 0) j → w6.heap.size ≤ j := fun j hj => by rw [(only_nil p j).1 hj]; exact HP.out
      have sput := sput_any w6.heap.size p (.slice none 0 0) [] (.slice uo i uc) Y (K : Int) W1 O1 (.slice u1o P1.length u1c) P1 w7 W7.out (fun w' hk => only_sl SY6.out K67.out hdis hk) (fun w' hk => only_pts T6.out K67.out hdis hk)
        (by have := HNL.out; omega) (by have := HKJ.out; omega) (by simp) K67.out.size
      rw [P5.out, List.nil_append] at sput
      have SP := Lib.hid sput
      have HD := Lib.hid hdis
      obtain ⟨x0, x1, x2⟩ := cells_three (K67.out.heap H6.out id)
      clear sput hdis
      go_upto_region 15 with (go_at_call 9; refine SP.out.mono ?_; rintro e w8 ⟨rfl, p8⟩; clear SP)
      clear x0 x1 x2
      obtain ⟨v8, r8, k8, -⟩ := p8.wr
      have k68 : Kept Nix w6 w8 := nix_put K67.out k8 HD.out
      obtain ⟨hP1, hP2⟩ := P12.out
      obtain ⟨B, hpk, hby⟩ := bytes_of_wr r8 (by have := P4.out; have := P7.out; omega) (by unfold pad; omega) k68.size
      have hBl : B.length < 1000000000 := by have h8 := hpk.2.1; have := P4.out; have := P7.out; unfold pad at h8; omega
      have hB0 : 0 < B.length := by
        have h8 := hpk.2.1
        have h9 := (spE_good (Int.not_lt.2 hP1) hP2).2
        have h10 := congrArg List.length h9
        unfold secB hdb at h10
        simp only [List.length_append, dg_length] at h10
        omega
      obtain ⟨aT, fT, hT⟩ := take_cut (m := cn % B.length) hpk (Nat.mod_lt _ hB0) (Int.not_lt.2 hP1) hP2 HKJ.out.1 (by have := HNL.out; have := HKJ.out.1; omega) HYF.out
      rw [HY.out] at hT
      have R8 := Lib.hid r8
      have K68 := Lib.hid k68
      have BY := Lib.hid hby
      have HB := Lib.hid (And.intro hpk.1 (And.intro hBl hB0))
      have HT := Lib.hid hT
      clear r8 k8 k68 p8 hpk hby hBl hT hP1 hP2 hB0
      go_upto_region 16 with (go_at_call 13; refine BY.out.mono ?_; rintro e w9 ⟨v9, rfl, o9, k9, n9⟩; have K9 := Lib.hid k9; obtain ⟨bo, bc, rfl, hbc, -⟩ := owns_shape o9; have S9 := Lib.hid (sl_of_owns o9); have HBC := Lib.hid hbc; clear k9 o9 n9 BY hbc)
      have b0 : ((B.length : Int) == 0) = false := by rw [beq_eq_false_iff_ne]; have := HB.out.2.2; omega
      have hm1 : (cn : Int).tmod (B.length : Int) = ((cn % B.length : Nat) : Int) := by rw [Int.tmod_eq_emod_of_nonneg (by omega), Int.natCast_emod]
      have hm2 : (cn : Int) % (B.length : Int) = ((cn % B.length : Nat) : Int) := by rw [Int.natCast_emod]
      have hcw : wrap64 (cn : Int) = (cn : Int) := small_i _ (by have := HCN.out; omega)
      have hml : cn % B.length < B.length := Nat.mod_lt _ HB.out.2.2
      have hf1 := fun w => run_upto_b w bo B.length bc (cn % B.length) (by have := HBC.out; omega)
      have hf2 := fun w => run_upto_b_at w bo B.length bc (cn % B.length) (by have := HBC.out; omega)
      have SM := S9.out.take (cn % B.length) (by omega)
      rw [u8s_take] at SM
      have OP := Lib.hid (open_any w9.heap.size _ (B.take (cn % B.length)) w9 SM (fun b hb => HB.out.1 b (List.mem_of_mem_take hb)) (by rw [List.length_take]; have := HB.out.2.1; omega) (Nat.le_refl _))
      have HML := Lib.hid (show (B.take (cn % B.length)).length < 1000000000 by rw [List.length_take]; have := HB.out.2.1; omega)
      clear SM S9 hml HBC
      generalize B.take (cn % B.length) = B' at *
      generalize cn % B.length = m at *
      generalize B.length = lb at *
      have hlb : ¬ lb = 0 := by have := HB.out.2.2; omega
      go_upto_region 19 with (go_at_call 12; refine OP.out.mono ?_; rintro e w10 ⟨q, v10, rfl, hq, rd, k10, n10⟩; have RD := Lib.hid rd; have K10 := Lib.hid k10; have HQ := Lib.hid hq; clear OP rd k10 n10 hq)
      clear hf1 hf2 hm1 hm2 b0
      have hbk : wrap64 ((i : Int) + (K : Int)) = ((i + K : Nat) : Int) := by rw [← Int.natCast_add, small_i _ (by have := HL.out; have := HKJ.out.1; omega)]
      have st := stake_any w9.heap.size q v10 B' 0 0 ((i + K : Nat) : Int) (K : Int) w10 RD.out (by have := HML.out; omega)
      rw [HT.out] at st
      unfold STakePost at st
      have STK := Lib.hid st
      clear st
      generalize ((i + K : Nat) : Int) = bk at *
      go_upto_region 22 with (go_at_call 14; refine STK.out.mono ?_; rintro e w11 ⟨u2, uv, rfl, rp, o2, ov⟩; clear STK; obtain ⟨u2o, u2c, rfl, -, -⟩ := owns_shape o2; obtain ⟨uvo, uvc, rfl, -, -⟩ := owns_shape ov; have RP := Lib.hid rp; clear rp o2 ov)
      have k811 : Kept Nix w8 w11 := nix_trans K9.out (nix_put K10.out RP.out.2 (fun j hj => by rw [show j = q from hj]; exact HQ.out))
      have K12 := Lib.hid (nix_trans K6.out (nix_trans K68.out k811))
      clear k811
      go_wp2
      go_ret
      exact ⟨rfl, K12.out.alloc _⟩

end Go.Proofs.Ytlbnjclchmnomaa
