/- The reference of layer 12: Residual. -/
import Derived.Test.YtkpmofomlplihaaRLpc1
import Derived.Test.YtkpmofomlplihaaLpcRes
import Derived.Deep.RegionLaw
namespace Go.Proofs.Ytkpmofomlplihaa
open Go.RowKit Bx

theorem lft_nth (F x : List Int) (S n i : Nat) (hn : F.length = n) (h1 : n ≤ i) (h2 : i < x.length) : x.getD i 0 - td F S x i = (lft F S x).getD (i - n) 0 := by
  rw [lft_get _ _ _ _ (by omega), hn, show n + (i - n) = i by omega]

theorem rlres_nums {F x : List Int} {S n l i : Nat} (hF : Bd 16384 F) (hx : Bd 1099511627776 x) (hn : F.length = n) (hn2 : n ≤ 32) (hl : x.length = l) (hl2 : l < 1000000) (hni : n ≤ i) (hi : i < l) :
    IntKind.i64.wrap (x.getD i 0 - td F S x i) = (lft F S x).getD (i - n) 0 ∧ wrap64 ((i : Int) + 1) = ((i + 1 : Nat) : Int) ∧ (i : Int) < (l : Int) ∧ i - n < (lft F S x).length ∧ i + 1 - n = i - n + 1 ∧ i - n + 1 ≤ maxLen ∧ (i - n + 1) * 8 ≤ 140737488355328 := by
  have h1 := td_big hF hx (by omega) S i
  have h2 := hx.any (by decide) i
  refine ⟨?_, ?_, by omega, ?_, by omega, ?_, by omega⟩
  · rw [IntWalk.i64_in _ (by omega), lft_nth F x S n i hn hni (by omega)]
  · rw [w64_in _ (by omega)]; omega
  · rw [lft_length]; omega
  · simp only [maxLen]; omega

theorem take_snoc {L : List Int} {i : Nat} (h : i < L.length) : L.take (i + 1) = L.take i ++ [L.getD i 0] := by
  rw [List.take_succ_eq_append_getElem h]
  simp [List.getD, h]

theorem wide_of (y : Int) : wide y = (decide (y < -2147483647) || decide (2147483647 < y)) := by
  unfold wide
  rw [show decide (y ≤ -2147483648) = decide (y < -2147483647) from decide_eq_decide.2 (by omega), show decide (2147483648 ≤ y) = decide (2147483647 < y) from decide_eq_decide.2 (by omega)]

def RLResInv (vx : Value) (n l g b : Nat) (F x : List Int) (S : Nat) (w : World) (a : Act) (w' : World) : Prop :=
  a.defers = [] ∧ a.tmps.size = 50 ∧ a.tmps[0]? = some vx ∧ a.tmps[3]? = some (.pointer (some ⟨g, 0, none⟩)) ∧ ∃ i : Nat, n ≤ i ∧ i ≤ l ∧ a.tmps[8]? = some (.int .i64 (i : Int)) ∧ ((lft F S x).take (i - n)).any wide = false ∧ ∃ u, a.tmps[7]? = some u ∧ w'.ownsRow b 3 1 u (i - n) (ivs ((lft F S x).take (i - n))) ∧ Kept Nix w w'

set_option maxRecDepth 10000 in
set_option maxHeartbeats 4000000 in
theorem rlres_any (s p : Int) (u v : Value) (F x : List Int) (w : World) (hu : Sl w u (ivs F)) (hv : Sl w v (ivs x)) (hx : Bd 1099511627776 x) (hl : x.length < 1000000) :
    Calls Try.prog 13 #[v, .agg #[.int .i64 s, .int .i64 p, u]] w (LResPost s p F x w) := by
  obtain ⟨ao, ca, rfl, -⟩ := hu.ints
  obtain ⟨bo, cb, rfl, hcb, -⟩ := hv.ints
  have k1 : Kept Nix w (w.alloc (.cells #[.int .i64 s, .int .i64 p, .slice ao F.length ca] 24)) := (Kept.refl _ w).alloc _
  have HB := Lib.hid (heap_alloc_new w (.cells #[.int .i64 s, .int .i64 p, .slice ao F.length ca] 24))
  have CC := Lib.hid (fun w' k => lpc_cells w s p (.slice ao F.length ca) 24 w' k)
  have CK := Lib.hid (rcheck_any s p _ F _ (hu.nix k1))
  have HU := Lib.hid (hu.nix k1)
  have HV := Lib.hid (hv.nix k1)
  have K1 := Lib.hid k1
  have HX := Lib.hid hx
  have HL := Lib.hid hl
  clear hu hv k1 hx hl hcb
  unfold lpcE at CK
  cases hb : lpcB s p F with
  | true =>
    have HP := Lib.hid (fun w' (hk : Kept Nix w w') => lres_bad (lresE_check x hb) (by decide) hk)
    rw [if_pos hb] at CK
    clear hb
    generalize F.length = n at *
    generalize x.length = l at *
    go_enter Try.func13, Try.ntmps13
    go_upto_region 1 with fail
    generalize w.alloc (.cells #[.int .i64 s, .int .i64 p, .slice ao n ca] 24) = w1 at *
    go_wp2_with (first
      | (refine wpList_load_row rfl 24 _ rfl w.heap.size rfl 24 _ (0, 0) _ HB.out Try.underlying24 rfl size_lpc ?_)
      | (go_at_call 15; refine CK.out.mono ?_; rintro e w2 ⟨rfl, k2⟩; have K2 := Lib.hid (nix_trans K1.out k2); clear k2 CK))
    go_ret2
    exact HP.out _ K2.out
  | false =>
    rw [if_neg (by rw [hb]; decide)] at CK
    have OK := Lib.hid (lpc_ok hb)
    obtain ⟨S, rfl⟩ : ∃ S : Nat, s = (S : Int) := ⟨s.toNat, by have := OK.out.s0; omega⟩
    by_cases hsh : x.length < F.length
    · have HP := Lib.hid (fun w' (hk : Kept Nix w w') => lres_bad (lresE_short hb hsh) (by decide) hk)
      have hd : decide ((x.length : Int) < (F.length : Int)) = true := decide_eq_true (by omega)
      have hd2 : decide (x.length < F.length) = true := decide_eq_true hsh
      clear hb hsh OK
      generalize F.length = n at *
      generalize x.length = l at *
      go_enter Try.func13, Try.ntmps13
      go_upto_region 1 with fail
      generalize w.alloc (.cells #[.int .i64 (S : Int), .int .i64 p, .slice ao n ca] 24) = w1 at *
      go_wp2_with (first
        | (refine wpList_load_row rfl 24 _ rfl w.heap.size rfl 24 _ (0, 0) _ HB.out Try.underlying24 rfl size_lpc ?_)
        | (go_at_call 15; refine CK.out.mono ?_; rintro e w2 ⟨rfl, k2⟩; have K2 := Lib.hid (nix_trans K1.out k2); have y2 := (CC.out _ k2).2.2; clear k2 CK))
      go_ret2
      exact HP.out _ K2.out
    · have HW := Lib.hid (fun h3 w' (hk : Kept Nix w w') => lres_bad (lresE_wide (x := x) hb (by omega) h3) (by decide) hk)
      have HG := Lib.hid (fun h3 => And.intro (lresE_ok (x := x) hb (by omega) h3) (lresL_ok (x := x) hb (by omega) h3))
      simp only [Int.toNat_natCast] at HW HG
      have LL := Lib.hid (lft_length F S x)
      have hd : decide ((x.length : Int) < (F.length : Int)) = false := decide_eq_false (by omega)
      have hd2 : decide (x.length < F.length) = false := decide_eq_false hsh
      have HNL := Lib.hid (show F.length ≤ x.length by omega)
      have HN32 := Lib.hid OK.out.hi
      clear hb hsh
      generalize hn : F.length = n at *
      generalize hl' : x.length = l at *
      have HN := Lib.hid hn
      have HLX := Lib.hid hl'
      clear hn hl'
      go_enter Try.func13, Try.ntmps13
      go_upto_region 1 with fail
      generalize w.alloc (.cells #[.int .i64 (S : Int), .int .i64 p, .slice ao n ca] 24) = w1 at *
      go_wp2_with (first
        | (refine wpList_load_row rfl 24 _ rfl w.heap.size rfl 24 _ (0, 0) _ HB.out Try.underlying24 rfl size_lpc ?_)
        | (go_at_call 15; refine CK.out.mono ?_; rintro e w2 ⟨rfl, k2⟩; have K12 := Lib.hid k2; have y2 := (CC.out _ k2).2.2; clear k2 CK))
      clear hd hd2 y2
      generalize hg : w.heap.size = g at *
      have GB := Lib.hid (show g ≤ w1.heap.size by rw [← hg]; exact K1.out.size)
      refine wp_loop (RLResInv (.slice bo l cb) n l g w1.heap.size F x S w1) (fun a _ => l - (intOf (a.tmps.getD 8 undef)).toNat) ?_ ?_
      · refine ⟨rfl, rfl, rfl, rfl, n, Nat.le_refl _, HNL.out, rfl, ?_, _, rfl, ?_, K12.out⟩
        · rw [Nat.sub_self]; rfl
        · rw [Nat.sub_self]; exact World.ownsRow_nil _ _ _ _
      · rintro ⟨tm, df⟩ w3 ⟨rfl, hs, h0, h3, i, hni, hi, h8, hwd, uo, h7, ho, hk⟩
        simp only at hs h0 h3 h8 h7
        obtain ⟨f, hf, hgf⟩ := fr_open hs
        have e0 := hgf _ _ h0
        have e3 := hgf _ _ h3
        have e8 := hgf _ _ h8
        have e7 := hgf _ _ h7
        simp only [List.range, List.range.loop, List.map] at hf
        rw [e0, e3, e8, e7] at hf
        clear e0 e3 e8 e7 hgf hs h0 h3 h8 h7
        subst hf
        have HK := Lib.hid hk
        have HO := Lib.hid ho
        have HWD := Lib.hid hwd
        clear ho hk hwd
        by_cases hlt : i < l
        · obtain ⟨b1, o1, rfl, hc1⟩ := cell_kept HV.out i (by have := HLX.out; omega)
          obtain ⟨m1, m2, m3, m4, m5, m6, m7⟩ := rlres_nums (S := S) OK.out.bd HX.out HN.out HN32.out HLX.out HL.out hni hlt
          have hc3 := hc1 _ HK.out.drew
          obtain ⟨y0, y1, y2⟩ := CC.out _ HK.out.drew
          have TD := Lib.hid (rtold_any S p _ _ F x i w3.drew (HU.out.nix HK.out.drew) (HV.out.nix HK.out.drew) OK.out.bd HX.out (by rw [HN.out]; exact HN32.out) (by have := OK.out.s15; omega) (by rw [HN.out]; exact hni) (by have := HLX.out; omega) (by rw [HLX.out]; exact HL.out))
          have HI := Lib.hid hlt
          have HNI := Lib.hid hni
          have M2 := Lib.hid m2
          have M5 := Lib.hid m5
          have M6 := Lib.hid m6
          have M7 := Lib.hid m7
          have HST := Lib.hid (take_snoc m4)
          have HWN := Lib.hid (fun h => wides_next HWD.out m4 h)
          have HWH := Lib.hid (fun h => wides_here m4 h)
          have CL := Lib.hid hc1
          have hdd : decide (i < l) = true := decide_eq_true hlt
          clear hc1 hlt hi hni m2 m4 m5 m6 m7
          generalize (lft F S x).getD (i - n) 0 = y at *
          generalize x.getD i 0 = xi at *
          generalize td F S x i = ti at *
          go_wp2_with fail
          go_region_law
            (first
              | (go_simp; go_at_call 22; refine TD.out.mono ?_; rintro e w5 ⟨rfl, k5⟩; have K5 := Lib.hid (nix_trans ((Kept.refl Nix w3).drew) k5); have c5 := CL.out _ (nix_trans HK.out K5.out); obtain ⟨z0, z1, z2⟩ := CC.out _ (nix_trans HK.out K5.out); clear k5))
          all_goals
            have KW := Lib.hid (nix_trans HK.out K5.out)
            have O5 := Lib.hid ((K5.out.owns HO.out (fun _ _ h => h)).alloc (.cells #[.int .i64 y] 3))
            have HBS := Lib.hid (show w1.heap.size ≤ (w5.alloc (.cells #[.int .i64 y] 3)).heap.size from (KW.out.alloc _).size)
            clear hc3 c5 y0 y1 y2 z0 z1 z2 m1 m3
            by_cases hw1 : y < -2147483647
            · have hda : decide (y < -2147483647) = true := decide_eq_true hw1
              have HFF := Lib.hid (HWH.out (by rw [wide_of, hda]; rfl))
              clear hw1
              go_upto_if 44 with fail
              clear hda
              go_wp2
              go_ret2
              exact HW.out HFF.out _ (nix_trans K1.out KW.out)
            · by_cases hw2 : 2147483647 < y
              · have hda : decide (y < -2147483647) = false := decide_eq_false hw1
                have hdb : decide (2147483647 < y) = true := decide_eq_true hw2
                have HFF := Lib.hid (HWH.out (by rw [wide_of, hda, hdb]; rfl))
                clear hw1 hw2
                go_upto_if 44 with fail
                clear hda hdb
                go_wp2
                go_ret2
                exact HW.out HFF.out _ (nix_trans K1.out KW.out)
              · have hda : decide (y < -2147483647) = false := decide_eq_false hw1
                have hdb : decide (2147483647 < y) = false := decide_eq_false hw2
                have HFF := Lib.hid (HWN.out (by rw [wide_of, hda, hdb]; rfl))
                clear hw1 hw2
                go_upto_if 44 with fail
                clear hda hdb
                go_wp2_with (refine wpList_app _ rfl _ _ 22 rfl w1.heap.size 3 (.int .i64 0) 1 8 Try.underlying22 info_int rfl (by decide) _ _ _ rfl O5.out _ 1 1 [.int .i64 y] rfl (src_one w5 _ _ rfl) M6.out M7.out HBS.out ?_
                             intro v6 w6 o6 g6 n6; have k6 : Kept Nix w1 w6 := (KW.out.alloc _).grown g6 (fun kk hkk => .inr (O5.out.lt kk hkk).1); have K6 := Lib.hid k6; have O6 := Lib.hid o6; clear k6 o6 g6 n6)
                rw [M2.out]
                refine ⟨⟨rfl, rfl, rfl, rfl, i + 1, Nat.le_succ_of_le HNI.out, HI.out, rfl, by rw [M5.out]; exact HFF.out, v6, rfl, ?_, K6.out⟩, nearer HI.out rfl⟩
                rw [M5.out, HST.out, ivs_append]
                exact O6.out
        · have hie : i = l := by omega
          subst hie
          have hdd : decide (i < i) = false := decide_eq_false hlt
          have h1 := HWD.out
          rw [List.take_of_length_le (by rw [LL.out]; exact Nat.le_refl _)] at h1
          have HP := Lib.hid (HG.out h1)
          have h2 := HO.out
          rw [List.take_of_length_le (by rw [LL.out]; exact Nat.le_refl _)] at h2
          have HO2 := Lib.hid h2
          clear h1 h2 hlt hi hni
          go_wp2
          go_ret2
          exact ⟨_, by rw [HP.out.1]; rfl, by rw [HP.out.2, LL.out]; exact owns_weak HO2.out K1.out.size, nix_trans K1.out HK.out⟩

end Go.Proofs.Ytkpmofomlplihaa
