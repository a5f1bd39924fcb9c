/- The walk of SectionBack. -/
import Derived.Test.YtlbnjclchmnomaaAwake15
import Derived.Test.YtlbnjclchmnomaaLShort15
import Derived.Test.YtlbnjclchmnomaaSecTake
import Derived.Test.YtlbnjclchmnomaaSecWalk
import Derived.Test.YtlbnjclchmnomaaSecSmall
import Derived.Test.YtlbnjclchmnomaaPk24
import Derived.Test.YtlbnjclchmnomaaPk25
import Derived.Test.YtlbnjclchmnomaaPk10
namespace Go.Proofs.Ytlbnjclchmnomaa
open Go.RowKit Bx

def BackInv (vx vm v6 v12 : Value) (K : Nat) (L : List Int) (w : World) (a : Act) (w' : World) : Prop :=
  a.defers = [] ∧ a.tmps.size = 149 ∧ a.tmps[0]? = some vx ∧ a.tmps[3]? = some vm ∧ a.tmps[6]? = some v6 ∧ a.tmps[9]? = some (.bool true) ∧ a.tmps[10]? = some (.int .i64 (K : Int)) ∧ a.tmps[12]? = some v12 ∧ ∃ i : Nat, i ≤ L.length ∧ a.tmps[14]? = some (.int .i64 (i : Int)) ∧ a.tmps[13]? = some (.bool ((L.take i).any farN)) ∧ w' = w

/-- A section that is put, or not. -/
theorem sec_kinds (L : List Int) (k : Int) (wd : Bool) (o : Int) (ps : List (Int × Bool)) :
    (∃ (E : Int) (bN : Bool), spE L k wd o ps = E ∧ spB L k wd o ps = [] ∧ (E != 0) = true ∧ (E == 1) = bN ∧ decide (pbits (pcz L (ctI L.length k o)) ps (wM wd) (wA wd) < 0) = bN) ∨
    (0 ≤ pbits (pcz L (ctI L.length k o)) ps (wM wd) (wA wd) ∧ lngs (pcz L (ctI L.length k o)) ps = false) := by
  by_cases h : pbits (pcz L (ctI L.length k o)) ps (wM wd) (wA wd) < 0
  · obtain ⟨h1, h2⟩ := spE_bad h
    exact .inl ⟨1, true, h1, h2, rfl, rfl, decide_eq_true h⟩
  · cases hl : lngs (pcz L (ctI L.length k o)) ps with
    | true =>
      obtain ⟨h1, h2⟩ := spE_long h hl
      exact .inl ⟨7, false, h1, h2, rfl, rfl, decide_eq_false h⟩
    | false => exact .inr ⟨Int.not_lt.1 h, rfl⟩

set_option maxRecDepth 10000 in
set_option maxHeartbeats 8000000 in
theorem walk_SectionBack (w : World) (v : Value) (x : List Int) (hx : Sl w v (x.map (Value.int .i64))) (hw : ∀ n ∈ x, (Lit.int .i64 n).wf = true)
    (order : Int) (ho : (Lit.int .u8 order).wf = true) (wd : Bool) (o : Int) (_hwo : (Lit.int .i64 o).wf = true) (u : Value) (ps : List (Int × Bool)) (hp : Pts w u ps)
    (vm : Value) (ms : List Int) (hm : Sl w vm (ms.map (Value.int .u8))) (hms : ∀ n ∈ ms, (Lit.int .u8 n).wf = true) :
    Calls Try.prog 3 #[v, .int .u8 order, .agg #[.bool wd, .int .i64 o, u], vm] w fun e w' => e = .returned (.bool true) ∧ Kept Nix w w' := by
  obtain ⟨K, -, h1, -, r1, r2, -, -⟩ := law_mods ho ho
  obtain ⟨xo, xc, rfl, -⟩ := hx.ints
  obtain ⟨uo, uc, rfl, hp⟩ := hp.len
  obtain ⟨M, hM, hMB, -⟩ := hm.nats hms
  obtain ⟨mo, mc, rfl⟩ := hM.shape
  have HX := Lib.hid (show Sl w (.slice xo x.length xc) (ivs x) from hx)
  have HW := Lib.hid hw
  have HP := Lib.hid hp
  have HM := Lib.hid hM
  have HMB := Lib.hid hMB
  have HK := Lib.hid h1
  have HA := Lib.hid (fun w' => awake_any w')
  have H7 := Lib.hid (heap_alloc_new w (.cells #[.bool wd, .int .i64 o, .slice uo ps.length uc] 25))
  have K7 := Lib.hid ((Kept.refl Nix w).alloc (.cells #[.bool wd, .int .i64 o, .slice uo ps.length uc] 25))
  clear hx hw ho _hwo hp hm hms hM hMB h1
  go_enter Try.func3, Try.ntmps3
  go_upto_region 1 with fail
  generalize w.alloc (.cells #[.bool wd, .int .i64 o, .slice uo ps.length uc] 25) = w0 at *
  generalize w.heap.size = g7 at *
  have A0 := Lib.hid (HA.out w0)
  clear HA
  go_upto_region 2 with (go_at_call 6; refine A0.out.mono ?_; rintro e w1 ⟨rfl, k1⟩; have K1 := Lib.hid (nix_trans K7.out k1); have H1 := Lib.hid (k1.heap H7.out id); clear k1)
  clear A0 H7 K7
  obtain ⟨x0, x1, x2⟩ := cells_three H1.out
  by_cases hlen : 60 < x.length
  · have hd : decide ((60 : Int) < (x.length : Int)) = true := decide_eq_true (by omega)
    clear hlen
    go_wp2
    go_ret
    exact ⟨rfl, K1.out⟩
  have hd : decide ((60 : Int) < (x.length : Int)) = false := decide_eq_false (by omega)
  have HL := Lib.hid (show x.length ≤ 60 by omega)
  clear hlen
  by_cases hpl : 100 < ps.length
  · have hd2 : decide ((100 : Int) < (ps.length : Int)) = true := decide_eq_true (by omega)
    clear hpl
    go_wp2
    go_ret
    exact ⟨rfl, K1.out⟩
  have hd2 : decide ((100 : Int) < (ps.length : Int)) = false := decide_eq_false (by omega)
  have HPL := Lib.hid (show ps.length ≤ 100 by omega)
  clear hpl
  by_cases hml : 10 < M.length
  · have hd3 : decide ((10 : Int) < (M.length : Int)) = true := decide_eq_true (by omega)
    clear hml
    go_wp2
    go_ret
    exact ⟨rfl, K1.out⟩
  have hd3 : decide ((10 : Int) < (M.length : Int)) = false := decide_eq_false (by omega)
  have HML := Lib.hid (show M.length ≤ 10 by omega)
  clear hml
  have SH := Lib.hid (short_any _ x (K : Int) wd o _ ps w1 (HX.out.nix K1.out) HW.out (HP.out.nix K1.out) (by have := HL.out; omega) (by have := HPL.out; omega) (by have := HK.out; omega))
  go_upto_region 6 with (go_at_call 7; refine SH.out.mono ?_; rintro e w2 ⟨⟨b, rfl⟩, k2⟩; have K12 := Lib.hid k2; clear k2)
  clear SH hd hd2 hd3 x0 x1 x2
  have K2 := Lib.hid (nix_trans K1.out K12.out)
  have H2 := Lib.hid (K12.out.heap H1.out id)
  have HN := Lib.hid (new_any w2.heap.size w2 (Nat.le_refl _))
  clear H1
  go_upto_region 7 with (go_at_call 8; refine HN.out.mono ?_; rintro e w7 ⟨p, rfl, hp, hw7, hk7⟩; have HP7 := Lib.hid hp; have W7 := Lib.hid hw7; have K27 := Lib.hid hk7; clear hp hw7 hk7)
  clear HN K12
  cases b with
  | false =>
    go_wp2
    go_ret
    exact ⟨rfl, nix_trans K2.out K27.out⟩
  | true =>
  go_wp2
  clear r1 r2
  refine wp_loop (BackInv (.slice xo x.length xc) (.slice mo M.length mc) (.pointer (some ⟨g7, 0, none⟩)) (.pointer (some ⟨p, 0, none⟩)) K x w7) (fun a _ => x.length - (intOf (a.tmps.getD 14 undef)).toNat) ?_ ?_
  · exact ⟨rfl, rfl, rfl, rfl, rfl, rfl, rfl, rfl, 0, Nat.zero_le _, rfl, rfl, rfl⟩
  · rintro ⟨tm, df⟩ w8 ⟨rfl, hs, e0, e3, e6, e9, e10, e12, i, hi, e14, e13, rfl⟩
    simp only at hs e0 e3 e6 e9 e10 e12 e14 e13
    obtain ⟨f, hf, hg⟩ := fr_open hs
    have g0 := hg _ _ e0
    have g3 := hg _ _ e3
    have g6 := hg _ _ e6
    have g9 := hg _ _ e9
    have g10 := hg _ _ e10
    have g12 := hg _ _ e12
    have g13 := hg _ _ e13
    have g14 := hg _ _ e14
    simp only [List.range, List.range.loop, List.map] at hf
    rw [g0, g3, g6, g9, g10, g12, g13, g14] at hf
    clear g0 g3 g6 g9 g10 g12 g13 g14 hg hs e0 e3 e6 e9 e10 e12 e14 e13
    subst hf
    by_cases hlt : i < x.length
    · obtain ⟨b1, o1, e1, hc1⟩ := cell_sort HX.out i hlt
      have x1 := hc1 w8 (nix_trans K2.out K27.out)
      subst e1
      obtain ⟨m1, m2, m3, m4⟩ := grow_step i x.length hlt (by have := HL.out; omega)
      have hfar : (x.take (i + 1)).any farN = ((x.take i).any farN || farN (x.getD i 0)) := by rw [tk_next hlt, List.any_append]; simp
      have HFAR := Lib.hid hfar
      have M1 := Lib.hid m1
      have HI := Lib.hid hlt
      have hdd : decide (i < x.length) = true := decide_eq_true hlt
      clear hc1 hlt hi m1 m3 m4
      obtain ⟨ba, hba⟩ : ∃ b, (x.take i).any farN = b := ⟨_, rfl⟩
      obtain ⟨bb, hbb⟩ : ∃ b, (x.take (i + 1)).any farN = b := ⟨_, rfl⟩
      rw [hba] at HFAR ⊢
      rw [hbb] at HFAR
      have HBB := Lib.hid hbb
      have hF : ∀ y z, decide (x.getD i 0 < -2147483647) = y → decide (2147483647 < x.getD i 0) = z → bb = (ba || (y || z)) := by
        rintro y z rfl rfl
        rw [HFAR.out]
        unfold farN
        rw [show decide (x.getD i 0 ≤ -2147483648) = decide (x.getD i 0 < -2147483647) from decide_eq_decide.2 (by omega), show decide (2147483648 ≤ x.getD i 0) = decide (2147483647 < x.getD i 0) from decide_eq_decide.2 (by omega)]
      clear hfar hba hbb HFAR
      generalize x.getD i 0 = xi at *
      obtain ⟨y1, hy⟩ : ∃ b, decide (xi < -2147483647) = b := ⟨_, rfl⟩
      obtain ⟨y2, hz⟩ : ∃ b, decide (2147483647 < xi) = b := ⟨_, rfl⟩
      have hFF := Lib.hid (hF _ _ hy hz)
      clear hF
      cases ba <;> cases y1 <;> cases y2
      all_goals
        go_wp2
        rw [M1.out]
        refine ⟨⟨rfl, rfl, rfl, rfl, rfl, rfl, rfl, rfl, i + 1, HI.out, rfl, ?_, rfl⟩, nearer HI.out rfl⟩
        rw [HBB.out, hFF.out]
        rfl
    · have hie : i = x.length := by omega
      subst hie
      have hdd : decide (x.length < x.length) = false := decide_eq_false hlt
      rw [List.take_length]
      clear hlt hi
      have H8 := Lib.hid (K27.out.heap H2.out id)
      obtain ⟨x0, x1, x2⟩ := cells_three H8.out
      have hdis : ∀ j, Only p (.slice none 0 0) j → w2.heap.size ≤ j := fun j hj => by rw [(only_nil p j).1 hj]; exact HP7.out
      have sput := sput_any w2.heap.size p (.slice none 0 0) [] (.slice xo x.length xc) x (K : Int) wd o (.slice uo ps.length uc) ps w8 W7.out (fun w' hk => only_sl (HX.out.nix K2.out) K27.out hdis hk) (fun w' hk => only_pts (HP.out.nix K2.out) K27.out hdis hk)
        (by have := HL.out; omega) (by have := HK.out; omega) (by simp) K27.out.size
      rw [List.nil_append] at sput
      have HD := Lib.hid hdis
      have pb := fun w' (h : Kept Nix w2 w') => pbits_any _ x (K : Int) o wd _ ps w' ((HX.out.nix K2.out).nix h) ((HP.out.nix K2.out).nix h) (by have := HL.out; omega) (by have := HK.out; omega)
      have SK := Lib.hid (sec_kinds x (K : Int) wd o ps)
      have TP := Lib.hid (fun B hpk => take_put (B := B) (wd := wd) (L := x) (k := K) (o := o) (ps := ps) (M := M) hpk HMB.out)
      have SG := Lib.hid (spE_good (L := x) (k := (K : Int)) (wd := wd) (o := o) (ps := ps))
      have SS := Lib.hid (spB_small (L := x) (k := K) (wd := wd) (o := o) (ps := ps))
      have SL := Lib.hid (secB_len (wd := wd) (o := o.toNat) (P := pcz x (ctI x.length (K : Int) o)) (ps := ps))
      obtain ⟨S, hS⟩ : ∃ S, spB x (K : Int) wd o ps = S := ⟨_, rfl⟩
      obtain ⟨E, hE⟩ : ∃ E, spE x (K : Int) wd o ps = E := ⟨_, rfl⟩
      obtain ⟨N, hN⟩ : ∃ N, pbits (pcz x (ctI x.length (K : Int) o)) ps (wM wd) (wA wd) = N := ⟨_, rfl⟩
      rw [hS, hE] at sput
      rw [hN] at pb
      rw [hS, hE, hN] at SK
      rw [hS, hN] at TP
      rw [hS, hE, hN] at SG
      rw [hS, hN] at SS
      rw [hN] at SL
      have SP := Lib.hid sput
      have PB := Lib.hid pb
      clear sput hdis pb hS hE hN
      generalize hfb : x.any farN = fb at *
      have HFB := Lib.hid hfb
      clear hfb
      generalize hlx : x.length = l at *
      have HLX := Lib.hid hlx
      clear hlx
      generalize hlp : ps.length = lp at *
      have HLP := Lib.hid hlp
      clear hlp
      generalize hlm : M.length = lm at *
      have HLM := Lib.hid hlm
      clear hlm
      clear W7
      go_upto_region 17 with (go_at_call 9; refine SP.out.mono ?_; rintro e w9 ⟨rfl, p9⟩; clear SP)
      clear x0 x1 x2
      obtain ⟨v9, r9, k9, -⟩ := p9.wr
      have K29 := Lib.hid (nix_put K27.out k9 HD.out)
      have R9 := Lib.hid r9
      clear r9 k9 p9 HD K27 H8
      obtain ⟨x0, x1, x2⟩ := cells_three (K29.out.heap H2.out id)
      have PB9 := Lib.hid (PB.out w9 K29.out)
      clear PB
      go_upto_region 18 with (go_at_call 10; refine PB9.out.mono ?_; rintro e w10 ⟨rfl, k10⟩; have K10 := Lib.hid k10; clear k10 PB9)
      clear x0 x1 x2
      have R10 := Lib.hid (R9.out.kept K10.out (fun h => h) (fun _ _ h => h))
      have K210 := Lib.hid (nix_trans K29.out K10.out)
      clear R9 K29 K10
      rcases SK.out with ⟨E', bN, rfl, rfl, h1, h2, h3⟩ | ⟨h1, h2⟩
      · have LN := Lib.hid (show Calls Try.prog 11 #[.pointer (some ⟨p, 0, none⟩)] w10 fun e w' => e = .returned (.int .i64 0) ∧ w10 = w' from len_any _ p v9 _ _ _ w10 R10.out)
        clear SK TP SG SS SL R10
        have hbb : (bN == bN) = true := beq_self_eq_true _
        go_wp2_with (go_at_call 11; refine LN.out.mono ?_; rintro e w11 ⟨rfl, rfl⟩; clear LN)
        go_ret
        exact ⟨rfl, nix_trans K2.out K210.out⟩
      · have hs2 := Int.not_lt.2 h1
        have hE := (SG.out h1 h2).1
        have hS := (SG.out h1 h2).2
        have hsm := SS.out h1 h2 HL.out HPL.out
        have hN := SL.out h1
        rw [← hS] at hN
        subst hE
        obtain ⟨B, hpk, hby⟩ := bytes_of_wr R10.out (by omega) (by unfold pad; omega) K210.out.size
        have hBl : B.length < 1000000000 := by have h8 := hpk.2.1; unfold pad at h8; omega
        obtain ⟨O, hO, hT⟩ := TP.out B hpk h1 h2 HK.out (by have := HL.out; have := HK.out; omega)
        have n0 : (N != N) = false := bne_self_eq_false _
        have ln := len_any _ p v9 _ _ _ w10 R10.out
        rw [hN] at ln
        have LN := Lib.hid ln
        have BY := Lib.hid hby
        have HB := Lib.hid (And.intro hpk.1 hBl)
        have HT := Lib.hid (And.intro hO hT)
        have HNS := Lib.hid hN
        clear SK TP SG SS SL R10 h1 h2 hs2 hS hsm hN hpk hby hBl hO hT ln
        go_upto_region 22 with (go_at_call 11; refine LN.out.mono ?_; rintro e w11 ⟨rfl, rfl⟩; clear LN)
        have HMB1 := Lib.hid (fun b (hb : b ∈ B ++ M) => (List.mem_append.1 hb).elim (HB.out.1 b) (HMB.out b))
        have HBM := Lib.hid (show (B ++ M).length < 1000000100 by rw [List.length_append, HLM.out]; have := HB.out.2; have := HML.out; omega)
        go_upto_region 23 with (first
          | (go_at_call 13; refine BY.out.mono ?_; rintro e w11 ⟨v11, rfl, o11, k11, n11⟩; clear BY; obtain ⟨bo, bc, rfl, -, -⟩ := owns_shape o11; have O11 := Lib.hid o11; have K11 := Lib.hid (nix_trans K210.out k11); have MS := Lib.hid (src_u8s (HM.out.nix (nix_trans K2.out (nix_trans K210.out k11)))); have HS11 := Lib.hid (And.intro (show B.length + lm ≤ maxLen by have := HB.out.2; have := HML.out; simp only [maxLen]; omega) (And.intro (show (B.length + lm) * 1 ≤ 140737488355328 by have := HB.out.2; have := HML.out; omega) (nix_trans K210.out k11).size)); clear o11 k11 n11)
          | (refine wpList_app _ rfl _ _ 26 rfl w2.heap.size 5 (.int .u8 0) 1 1 Try.underlying26 info_u8 rfl (by decide) _ _ _ rfl O11.out mo lm mc (u8s M) rfl MS.out HS11.out.1 HS11.out.2.1 HS11.out.2.2 ?_
             intro v12 w12 o12 g12 n12; have K12 := Lib.hid (show Kept Nix w2 w12 from K11.out.grown g12 (fun kk hkk => .inr (O11.out.lt kk hkk).1)); rw [← u8s_append] at o12; have OP := Lib.hid (open_any w12.heap.size v12 (B ++ M) w12 (sl_of_owns o12) HMB1.out (by have := HBM.out; omega) (Nat.le_refl _)); clear o12 g12 n12)
          | (go_at_call 12; refine OP.out.mono ?_; rintro e w13 ⟨q, v13, rfl, hq, rd, k13, n13⟩; have RD := Lib.hid rd; have K13 := Lib.hid k13; have HQ := Lib.hid hq; have HV13 := Lib.hid n13; clear OP rd k13 n13 hq))
        have K212 := Lib.hid (nix_trans K2.out K12.out)
        have hbk : wrap64 ((l : Int) + (K : Int)) = ((l + K : Nat) : Int) := by rw [← Int.natCast_add, small_i _ (by have := HL.out; have := HK.out; omega)]
        have st := stake_any w12.heap.size q v13 (B ++ M) 0 0 ((l + K : Nat) : Int) (K : Int) w13 RD.out (by have := HBM.out; omega)
        obtain ⟨hO, hT⟩ := HT.out
        rcases hT with ⟨rfl, hT⟩ | ⟨rfl, aT, fT, hT⟩
        · rw [hT] at st
          unfold STakePost at st
          simp only [← hO] at st
          have STK := Lib.hid st
          clear st hT HT hO
          generalize ((l + K : Nat) : Int) = bk at *
          go_upto_region 26 with (go_at_call 14; refine STK.out.mono ?_; rintro e w14 ⟨u2, uv, rfl, rp, o2, ov⟩; clear STK; obtain ⟨u2o, u2c, rfl, -, -⟩ := owns_shape o2; obtain ⟨uvo, uvc, rfl, -, -⟩ := owns_shape ov; have RP := Lib.hid rp; have O2 := Lib.hid (sl_of_owns o2); have OV := Lib.hid (pts_of_owns ov); clear rp o2 ov)
          have k1314 : Kept Nix w12 w14 := nix_put K13.out RP.out.2 (fun j hj => by rw [show j = q from hj]; exact HQ.out)
          rw [HLX.out] at O2 ⊢
          rw [HLP.out] at OV ⊢
          have kal := (Kept.refl Nix w14).alloc (.cells #[.bool wd, .int .i64 o, .slice uvo lp uvc] 25)
          have H15 := Lib.hid (heap_alloc_new w14 (.cells #[.bool wd, .int .i64 o, .slice uvo lp uvc] 25))
          have O15 := Lib.hid (O2.out.nix kal)
          have V15 := Lib.hid (OV.out.nix kal)
          have K1215 := Lib.hid (nix_trans k1314 kal)
          have R15 := Lib.hid (RP.out.1.kept kal (fun h => h) (fun _ _ h => h))
          clear k1314 kal O2 OV RP K13 HQ RD
          generalize w14.alloc (.cells #[.bool wd, .int .i64 o, .slice uvo lp uvc] 25) = w15 at *
          generalize w14.heap.size = g14 at *
          have K215 := Lib.hid (nix_trans K12.out K1215.out)
          have II := Lib.hid (ints_eq O15.out ((HX.out.nix K2.out).nix K215.out) (by rw [HLX.out]; have := HL.out; omega) rfl)
          have SM := Lib.hid (fun w' (k : Kept Nix w15 w') => rpsame_eq wd o _ _ ps w' (((HP.out.nix K2.out).nix K215.out).nix k) (V15.out.nix k))
          have H2' := Lib.hid (K215.out.heap H2.out id)
          have AT := Lib.hid (fun w' (k : Kept Nix w15 w') => show Calls Try.prog 17 #[.pointer (some ⟨q, 0, none⟩)] w' fun e w'' => e = .returned (.int .i64 N) ∧ w' = w'' from HNS.out ▸ at_any _ q v13 _ _ _ w' (R15.out.kept k (fun h => h) (fun _ _ h => h)))
          clear O15 V15 H2 R15
          have n1 : (N == N) = true := beq_self_eq_true _
          go_wp2_with (first
            | (go_at_call 15; refine II.out.mono ?_; rintro e w16 ⟨rfl, n16, hw16⟩; have K16 := Lib.hid (show Kept Nix w15 w16 by rw [hw16]; exact (Kept.refl Nix w15).drewN n16); clear II hw16; obtain ⟨x0, x1, x2⟩ := cells_three (K16.out.heap H2'.out id); obtain ⟨y0, y1, y2⟩ := cells_three (K16.out.heap H15.out id))
            | (go_at_call 16; refine (SM.out _ K16.out).mono ?_; rintro e w17 ⟨rfl, k17⟩; have K17 := Lib.hid (nix_trans K16.out k17); clear SM k17)
            | (go_at_call 17; refine (AT.out _ K17.out).mono ?_; rintro e w18 ⟨rfl, rfl⟩; clear AT))
          go_ret
          exact ⟨rfl, nix_trans K2.out (nix_trans K215.out K17.out)⟩
        · rw [hT] at st
          unfold STakePost at st
          have STK := Lib.hid st
          clear st hT HT hO
          generalize ((l + K : Nat) : Int) = bk at *
          go_upto_region 26 with (go_at_call 14; refine STK.out.mono ?_; rintro e w14 ⟨u2, uv, rfl, rp, o2, ov⟩; clear STK; obtain ⟨u2o, u2c, rfl, -, -⟩ := owns_shape o2; obtain ⟨uvo, uvc, rfl, -, -⟩ := owns_shape ov; have RP := Lib.hid rp; clear rp o2 ov)
          have k1314 : Kept Nix w12 w14 := nix_put K13.out RP.out.2 (fun j hj => by rw [show j = q from hj]; exact HQ.out)
          have K14 := Lib.hid (nix_trans K212.out k1314)
          clear k1314
          go_wp2
          go_ret
          exact ⟨rfl, K14.out.alloc _⟩

end Go.Proofs.Ytlbnjclchmnomaa
