/- The reference of layer 12: Restore. -/
import Derived.Test.YtkpmofomlplihaaRLpc1
import Derived.Test.YtkpmofomlplihaaLpcRst
namespace Go.Proofs.Ytkpmofomlplihaa
open Go.RowKit Bx

/-- What is restored up to the first number that is far. -/
def lstop (F : List Int) (S : Nat) : List Int → List Int → List Int
  | A, [] => A
  | A, b :: B => if 1099511627776 < b + td F S A A.length ∨ b + td F S A A.length < -1099511627776 then A ++ [b + td F S A A.length] else lstop F S (A ++ [b + td F S A A.length]) B

theorem near_app {A B : List Int} (h : near (A ++ B) = true) : near A = true ∧ near B = true := by
  unfold near at h ⊢
  rw [List.all_append, Bool.and_eq_true] at h
  exact h

/-- Where all is near, that is all. -/
theorem lstop_near (F : List Int) (S : Nat) : ∀ (B A : List Int), near (lstop F S A B) = true → lstop F S A B = lrst F S A B := by
  intro B
  induction B with
  | nil => intro A _; rfl
  | cons b B ih =>
    intro A h
    rw [lstop] at h ⊢
    split at h
    · rename_i hf
      have := (near_app h).2
      simp only [near, List.all_cons, List.all_nil, Bool.and_true, Bool.and_eq_true, decide_eq_true_eq] at this
      omega
    · rename_i hf
      rw [if_neg hf, ih _ h, lrst_cons]

def RRstL (s p : Int) (F A B : List Int) : List Int := if lrstE s p F A = 0 then lstop F s.toNat A B else []

def RRstPost (s p : Int) (F A B : List Int) (w : World) (e : Ending) (w' : World) : Prop :=
  ∃ u, e = .returned (.tuple #[u, .int .i64 (lrstE s p F A)]) ∧ w'.ownsRow w.heap.size 3 1 u (RRstL s p F A B).length (ivs (RRstL s p F A B)) ∧ Kept Nix w w'

theorem rrst_off {s p : Int} {F A : List Int} (B : List Int) (h : lrstE s p F A = 1) {w w' : World} (hk : Kept Nix w w') : RRstPost s p F A B w (.returned (.tuple #[.slice none 0 0, .int .i64 1])) w' := by
  have hl : RRstL s p F A B = [] := by unfold RRstL; rw [if_neg (by rw [h]; decide)]
  exact ⟨_, by rw [h], by rw [hl]; exact World.ownsRow_nil _ _ _ _, hk⟩

theorem RRstL_ok {s p : Int} {F A : List Int} (B : List Int) (h : lpcB s p F = false) (h2 : A.length = F.length) : RRstL s p F A B = lstop F s.toNat A B := by unfold RRstL; rw [if_pos (lrstE_ok h h2)]

theorem lstop_step {F X : List Int} {S : Nat} {B : List Int} {i : Nat} (hi : i < B.length) : lstop F S X (B.drop i) = if 1099511627776 < B.getD i 0 + td F S X X.length ∨ B.getD i 0 + td F S X X.length < -1099511627776 then X ++ [B.getD i 0 + td F S X X.length] else lstop F S (X ++ [B.getD i 0 + td F S X X.length]) (B.drop (i + 1)) := by
  rw [List.drop_eq_getElem_cons hi, lstop]
  simp [List.getD, hi]

theorem rlrst_nums {F X B : List Int} {S n l i m : Nat} (hF : Bd 16384 F) (hX : Bd 1099511627776 X) (hB : Bd 1099511627776 B) (hn : F.length = n) (hn2 : n ≤ 32) (hm : m < 1000000) (hi : i < m) (hl : n + i = l) :
    IntKind.i64.wrap (B.getD i 0 + td F S X l) = B.getD i 0 + td F S X l ∧ wrap64 ((i : Int) + 1) = ((i + 1 : Nat) : Int) ∧ (i : Int) < (m : Int) ∧ l + 1 ≤ maxLen ∧ (l + 1) * 8 ≤ 140737488355328 ∧ l < 1000032 := by
  have h1 := td_big hF hX (by omega) S l
  have h2 := hB.any (by decide) i
  refine ⟨IntWalk.i64_in _ (by omega), ?_, by omega, ?_, by omega, by omega⟩
  · rw [w64_in _ (by omega)]; omega
  · simp only [maxLen]; omega

theorem bd_snoc {X : List Int} {y : Int} (h : Bd 1099511627776 X) (h1 : ¬ 1099511627776 < y) (h2 : ¬ y < -1099511627776) : Bd 1099511627776 (X ++ [y]) := by
  apply bd_of_mem
  intro n hn
  rcases List.mem_append.1 hn with h3 | h3
  · exact h.mem n h3
  · rw [List.mem_singleton.1 h3]; omega

def RLRstInv (vr : Value) (n m g b : Nat) (F A B : List Int) (S : Nat) (w : World) (a : Act) (w' : World) : Prop :=
  a.defers = [] ∧ a.tmps.size = 54 ∧ a.tmps[1]? = some vr ∧ a.tmps[5]? = some (.pointer (some ⟨g, 0, none⟩)) ∧ ∃ i : Nat, i ≤ m ∧ a.tmps[10]? = some (.int .i64 (i : Int)) ∧ ∃ (X : List Int) (l : Nat), n + i = l ∧ X.length = l ∧ Bd 1099511627776 X ∧ lstop F S A B = lstop F S X (B.drop i) ∧ ∃ u, a.tmps[9]? = some u ∧ w'.ownsRow b 3 1 u l (ivs X) ∧ Kept Nix w w'

set_option maxRecDepth 10000 in
set_option maxHeartbeats 4000000 in
theorem rlrst_any (s p : Int) (u va vb : Value) (F A B : List Int) (w : World) (hu : Sl w u (ivs F)) (ha : Sl w va (ivs A)) (hb : Sl w vb (ivs B)) (hlb : B.length < 900000) (hA : Bd 1099511627776 A) (hB : Bd 1099511627776 B) :
    Calls Try.prog 17 #[va, vb, .agg #[.int .i64 s, .int .i64 p, u]] w (RRstPost s p F A B w) := by
  obtain ⟨ao, ca, rfl, -⟩ := hu.ints
  obtain ⟨wo, cw, rfl, -⟩ := ha.ints
  obtain ⟨bo, cb, rfl, -⟩ := hb.ints
  have k1 : Kept Nix w (w.alloc (.cells #[.int .i64 s, .int .i64 p, .slice ao F.length ca] 24)) := (Kept.refl _ w).alloc _
  have HB := Lib.hid (heap_alloc_new w (.cells #[.int .i64 s, .int .i64 p, .slice ao F.length ca] 24))
  have CC := Lib.hid (fun w' k => lpc_cells w s p (.slice ao F.length ca) 24 w' k)
  have CK := Lib.hid (rcheck_any s p _ F _ (hu.nix k1))
  have HU := Lib.hid (hu.nix k1)
  have HVA := Lib.hid (ha.nix k1)
  have HVB := Lib.hid (hb.nix k1)
  have K1 := Lib.hid k1
  have HBD := Lib.hid hB
  have HAD := Lib.hid hA
  have HL := Lib.hid hlb
  clear hu ha hb k1 hlb hB hA
  unfold lpcE at CK
  cases hb : lpcB s p F with
  | true =>
    have HP := Lib.hid (fun w' (hk : Kept Nix w w') => rrst_off B (lrstE_check A hb) hk)
    rw [if_pos hb] at CK
    clear hb
    generalize F.length = n at *
    generalize A.length = l at *
    generalize B.length = m at *
    go_enter Try.func17, Try.ntmps17
    go_upto_region 1 with fail
    generalize w.alloc (.cells #[.int .i64 s, .int .i64 p, .slice ao n ca] 24) = w1 at *
    go_wp2_with (first
      | (refine wpList_load_row rfl 24 _ rfl w.heap.size rfl 24 _ (0, 0) _ HB.out Try.underlying24 rfl size_lpc ?_)
      | (go_at_call 15; refine CK.out.mono ?_; rintro e w2 ⟨rfl, k2⟩; have K2 := Lib.hid (nix_trans K1.out k2); clear k2 CK))
    go_ret2
    exact HP.out _ K2.out
  | false =>
    rw [if_neg (by rw [hb]; decide)] at CK
    by_cases hsh : A.length = F.length
    · have OK := Lib.hid (lpc_ok hb)
      obtain ⟨S, rfl⟩ : ∃ S : Nat, s = (S : Int) := ⟨s.toNat, by have := OK.out.s0; omega⟩
      have HG := Lib.hid (And.intro (lrstE_ok hb hsh) (RRstL_ok B hb hsh))
      simp only [Int.toNat_natCast] at HG
      have hd : ((A.length : Int) != (F.length : Int)) = false := by rw [hsh]; exact bne_self_eq_false _
      have HN32 := Lib.hid OK.out.hi
      rw [hsh] at HVA hd
      rw [hsh]
      clear hb
      have HSH := Lib.hid hsh
      clear hsh
      generalize hn : F.length = n at *
      generalize hm : B.length = m at *
      have HN := Lib.hid hn
      have HM := Lib.hid hm
      clear hn hm
      go_enter Try.func17, Try.ntmps17
      go_upto_region 1 with fail
      generalize w.alloc (.cells #[.int .i64 (S : Int), .int .i64 p, .slice ao n ca] 24) = w1 at *
      go_upto_region 6 with (first
        | (refine wpList_load_row rfl 24 _ rfl w.heap.size rfl 24 _ (0, 0) _ HB.out Try.underlying24 rfl size_lpc ?_)
        | (go_at_call 15; refine CK.out.mono ?_; rintro e w2 ⟨rfl, k2⟩; have K12 := Lib.hid k2; have y2 := (CC.out _ k2).2.2; clear k2 CK))
      have HSRC := Lib.hid ((src_ivs (HVA.out.nix K12.out)).1.alloc (.cells #[] 3))
      have HOWN := Lib.hid (World.ownsRow_made (base := w1.heap.size) (e := 3) (size := 1) w2 #[] 0 K12.out.size (by simp [maxLen]) (by simp))
      have HB1 := Lib.hid (show 0 + n ≤ maxLen by have := HN32.out; simp only [maxLen]; omega)
      have HB2 := Lib.hid (show (0 + n) * 8 ≤ 140737488355328 by have := HN32.out; omega)
      have HBS := Lib.hid (show w1.heap.size ≤ (w2.alloc (.cells #[] 3)).heap.size from (K12.out.alloc _).size)
      clear hd y2
      go_wp2_with (refine wpList_app _ rfl _ _ 22 rfl w1.heap.size 3 (.int .i64 0) 1 8 Try.underlying22 info_int rfl (by decide) (.slice (some ⟨w2.heap.size, 0, none⟩) 0 0) 0 [] rfl HOWN.out wo _ cw _ rfl HSRC.out HB1.out HB2.out HBS.out ?_
                   intro v6 w6 o6 g6 n6; have O6 := Lib.hid o6; have k6 : Kept Nix w1 w6 := (K12.out.alloc _).grown g6 (fun kk hkk => .inr (HOWN.out.lt kk hkk).1); have K6 := Lib.hid k6; clear o6 g6 n6 k6)
      clear HSRC HOWN HB1 HB2 HBS
      generalize hg : w.heap.size = g at *
      refine wp_loop (RLRstInv (.slice bo m cb) n m g w1.heap.size F A B S w1) (fun a _ => m - (intOf (a.tmps.getD 10 undef)).toNat) ?_ ?_
      · refine ⟨rfl, rfl, rfl, rfl, 0, Nat.zero_le _, rfl, A, n, rfl, HSH.out, HAD.out, rfl, v6, rfl, ?_, K6.out⟩
        have h := O6.out
        rw [List.nil_append, Nat.zero_add] at h
        exact h
      · clear O6 K6
        rintro ⟨tm, df⟩ w3 ⟨rfl, hs, h1, h5, i, hi, h10, X, l, hnl, hXl, hXb, hst, uo, h9, ho, hk⟩
        simp only at hs h1 h5 h10 h9
        obtain ⟨f, hf, hgf⟩ := fr_open hs
        have e1 := hgf _ _ h1
        have e5 := hgf _ _ h5
        have e10 := hgf _ _ h10
        have e9 := hgf _ _ h9
        simp only [List.range, List.range.loop, List.map] at hf
        rw [e1, e5, e10, e9] at hf
        clear e1 e5 e10 e9 hgf hs h1 h5 h10 h9
        subst hf
        have HK := Lib.hid hk
        have HO := Lib.hid ho
        have HST := Lib.hid hst
        have HXL := Lib.hid hXl
        have HXB := Lib.hid hXb
        have HNL := Lib.hid hnl
        clear ho hk hst hXl hXb
        by_cases hlt : i < m
        · obtain ⟨b1, o1, rfl, hc1⟩ := cell_kept HVB.out i (by rw [HM.out]; exact hlt)
          obtain ⟨m1, m2, m3, m4, m5, m6⟩ := rlrst_nums (S := S) OK.out.bd HXB.out HBD.out HN.out HN32.out (show m < 1000000 by have := HL.out; omega) hlt HNL.out
          have hc3 := hc1 _ HK.out.drew
          obtain ⟨y0, y1, y2⟩ := CC.out _ HK.out.drew
          obtain ⟨xo, xc, rfl, -, -⟩ := owns_shape HO.out
          have TD := Lib.hid (rtold_any S p _ _ F X l w3.drew (HU.out.nix HK.out.drew) ((sl_of_owns HO.out).nix ((Kept.refl _ w3).drew)) OK.out.bd HXB.out (by rw [HN.out]; exact HN32.out) (by have := OK.out.s15; omega) (by rw [HN.out]; omega) (by rw [HXL.out]; exact Nat.le_refl _) (by rw [HXL.out]; have := HL.out; have := HN32.out; omega))
          have STP := Lib.hid (lstop_step (F := F) (X := X) (S := S) (B := B) (i := i) (by rw [HM.out]; exact hlt))
          rw [HXL.out] at STP
          have HI := Lib.hid hlt
          have M2 := Lib.hid m2
          have M4 := Lib.hid m4
          have M5 := Lib.hid m5
          have CL := Lib.hid hc1
          have hdd : decide (i < m) = true := decide_eq_true hlt
          have HTL := Lib.hid (show ∀ y : Int, (X ++ [y]).length = l + 1 from fun y => by rw [List.length_append, HXL.out]; rfl)
          clear hc1 hlt hi hnl m2 m4 m5 m6
          generalize B.getD i 0 = bi at *
          generalize td F S X l = ti at *
          generalize hy : bi + ti = y at *
          go_wp2_with fail
          go_region_law
            (first
              | (go_simp; go_at_call 22; refine TD.out.mono ?_; rintro e w5 ⟨rfl, k5⟩; have K5 := Lib.hid (nix_trans ((Kept.refl Nix w3).drew) k5); have c5 := CL.out _ (nix_trans HK.out K5.out); obtain ⟨z0, z1, z2⟩ := CC.out _ (nix_trans HK.out K5.out); clear k5))
          all_goals
            have KW := Lib.hid (nix_trans HK.out K5.out)
            have O5 := Lib.hid ((K5.out.owns HO.out (fun _ _ h => h)).alloc (.cells #[.int .i64 y] 3))
            have HBS := Lib.hid (show w1.heap.size ≤ (w5.alloc (.cells #[.int .i64 y] 3)).heap.size from (KW.out.alloc _).size)
            clear hc3 c5 y0 y1 y2 z0 z1 z2 m1 m3
            go_upto_region 12 with (refine wpList_app _ rfl _ _ 22 rfl w1.heap.size 3 (.int .i64 0) 1 8 Try.underlying22 info_int rfl (by decide) _ _ _ rfl O5.out _ 1 1 [.int .i64 y] rfl (src_one w5 _ _ rfl) M4.out M5.out HBS.out ?_; intro v6 w6 o6 g6 n6; have k6 : Kept Nix w1 w6 := (KW.out.alloc _).grown g6 (fun kk hkk => .inr (O5.out.lt kk hkk).1); have K6 := Lib.hid k6; have O6 := Lib.hid o6; clear k6 o6 g6 n6)
            have O7 := Lib.hid (show w6.ownsRow w1.heap.size 3 1 v6 (l + 1) (ivs (X ++ [y])) by rw [ivs_append]; exact O6.out)
            by_cases hw1 : 1099511627776 < y
            · have hda : decide (1099511627776 < y) = true := decide_eq_true hw1
              have HLS := Lib.hid (show lstop F S A B = X ++ [y] by rw [HST.out, STP.out, if_pos (.inl hw1)])
              clear hw1
              go_upto_if 51 with fail
              clear hda
              go_wp2
              go_ret2
              exact ⟨_, by rw [HG.out.1]; rfl, by rw [HG.out.2, HLS.out, HTL.out]; exact owns_weak O7.out K1.out.size, nix_trans K1.out K6.out⟩
            · by_cases hw2 : y < -1099511627776
              · have hda : decide (1099511627776 < y) = false := decide_eq_false hw1
                have hdb : decide (y < -1099511627776) = true := decide_eq_true hw2
                have HLS := Lib.hid (show lstop F S A B = X ++ [y] by rw [HST.out, STP.out, if_pos (.inr hw2)])
                clear hw1 hw2
                go_upto_if 51 with fail
                clear hda hdb
                go_wp2
                go_ret2
                exact ⟨_, by rw [HG.out.1]; rfl, by rw [HG.out.2, HLS.out, HTL.out]; exact owns_weak O7.out K1.out.size, nix_trans K1.out K6.out⟩
              · have hda : decide (1099511627776 < y) = false := decide_eq_false hw1
                have hdb : decide (y < -1099511627776) = false := decide_eq_false hw2
                have HLS := Lib.hid (show lstop F S A B = lstop F S (X ++ [y]) (B.drop (i + 1)) by rw [HST.out, STP.out, if_neg (fun h => h.elim hw1 hw2)])
                have HBN := Lib.hid (bd_snoc HXB.out hw1 hw2)
                clear hw1 hw2
                go_upto_if 51 with fail
                clear hda hdb
                go_wp2
                rw [M2.out]
                exact ⟨⟨rfl, rfl, rfl, rfl, i + 1, HI.out, rfl, X ++ [y], l + 1, by have := HNL.out; omega, HTL.out _, HBN.out, HLS.out, v6, rfl, O7.out, K6.out⟩, nearer HI.out rfl⟩
        · have hie : i = m := by omega
          subst hie
          have hdd : decide (i < i) = false := decide_eq_false hlt
          have h1 := HST.out
          rw [List.drop_of_length_le (by rw [HM.out]; exact Nat.le_refl _)] at h1
          have HP := Lib.hid (show lstop F S A B = X from h1)
          clear h1 hlt hi hnl
          go_wp2
          go_ret2
          exact ⟨_, by rw [HG.out.1]; rfl, by rw [HG.out.2, HP.out, HXL.out]; exact owns_weak HO.out K1.out.size, nix_trans K1.out HK.out⟩
    · have HP := Lib.hid (fun w' (hk : Kept Nix w w') => rrst_off B (lrstE_len (s := s) (p := p) hsh) hk)
      have hd : ((A.length : Int) != (F.length : Int)) = true := bne_iff_ne.2 (by omega)
      clear hb hsh
      generalize F.length = n at *
      generalize A.length = l at *
      generalize B.length = m at *
      go_enter Try.func17, Try.ntmps17
      go_upto_region 1 with fail
      generalize w.alloc (.cells #[.int .i64 s, .int .i64 p, .slice ao n ca] 24) = w1 at *
      go_wp2_with (first
        | (refine wpList_load_row rfl 24 _ rfl w.heap.size rfl 24 _ (0, 0) _ HB.out Try.underlying24 rfl size_lpc ?_)
        | (go_at_call 15; refine CK.out.mono ?_; rintro e w2 ⟨rfl, k2⟩; have K2 := Lib.hid (nix_trans K1.out k2); have y2 := (CC.out _ k2).2.2; clear k2 CK))
      go_ret2
      exact HP.out _ K2.out

end Go.Proofs.Ytkpmofomlplihaa
