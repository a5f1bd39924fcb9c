/- The reference's Bits of a plan. -/
import Derived.Test.YtliggpidkdiinaaPartBits
import Derived.Test.YtliggpidkdiinaaPartSBest
import Derived.Test.YtliggpidkdiinaaRPtCuts
import Derived.Test.YtliggpidkdiinaaRPtSplit
import Derived.Test.YtliggpidkdiinaaRCost1
import Derived.Test.YtliggpidkdiinaaLoopAt
namespace Go.Proofs.Ytliggpidkdiinaa
open Go.RowKit Bx

noncomputable def rpbL : Code := (loopAt 12 (Try.f22.body.getD .skip)).getD .skip

def RpbH (g5 : Nat) (vr : Value) (wd : Bool) (a : Act) : Prop :=
  a.defers = [] ∧ a.tmps.size = 78 ∧ a.tmps[5]? = some (.pointer (some ⟨g5, 0, none⟩)) ∧ a.tmps[8]? = some vr ∧ a.tmps[9]? = some (.int .i64 (wA wd : Int)) ∧ a.tmps[10]? = some (.int .i64 (wM wd : Int))

def RpbInv (g5 : Nat) (vr : Value) (wd : Bool) (P : List (List Int)) (ps : List (Int × Bool)) (w : World) (a : Act) (w' : World) : Prop :=
  RpbH g5 vr wd a ∧ ∃ i : Nat, i ≤ P.length ∧ a.tmps[12]? = some (.int .i64 (i : Int)) ∧ a.tmps[11]? = some (.int .i64 (6 + zsum (wA wd) (P.take i) (ps.take i))) ∧ zall (wM wd) (P.take i) (ps.take i) = true ∧ Kept Nix w w'

def RpbEnd (t : Nat) (v : Int) (b : Bool) (wd : Bool) (P : List (List Int)) (ps : List (Int × Bool)) (w : World) (a' : Act) (w' : World) : Prop :=
  a'.defers = [] ∧ a'.tmps.size = 78 ∧ a'.tmps[t]? = some (.int .i64 v) ∧ zall (wM wd) P ps = b ∧ Kept Nix w w'

set_option maxRecDepth 10000 in
set_option maxHeartbeats 4000000 in
theorem rpb_loop0 (g5 : Nat) (ro po : Option Addr) (rc pc : Nat) (wd : Bool) (o : Int) (P : List (List Int)) (ps : List (Int × Bool)) (a : Act) (w : World)
    (hh : RpbH g5 (.slice ro P.length rc) wd a) (h11 : a.tmps[11]? = some (.int .i64 6)) (h12 : a.tmps[12]? = some (.int .i64 0))
    (hx : w.heap[g5]? = some (.cells #[.bool wd, .int .i64 o, .slice po ps.length pc] 26 (0, 0))) (hch : Chs w (.slice ro P.length rc) P) (hp : Pts w (.slice po ps.length pc) ps) (hlen : P.length = ps.length)
    (hle : P.length ≤ 32768 ∧ tl P ≤ 1048576) (hql : ∀ R, R ∈ P → R.length ≤ 1048576) :
    Code.wp Try.prog rpbL (fun e a' w' => match e with
      | .exit 0 => RpbEnd 11 (6 + zsum (wA wd) P ps) true wd P ps w a' w'
      | .ret => RpbEnd 6 (-1) false wd P ps w a' w'
      | _ => False) a w := by
  have HB := Lib.hid (fun w' (h : Kept Nix w w') => cells_three (h.heap hx id))
  have CH := Lib.hid hch
  have HP := Lib.hid hp
  have HLE := Lib.hid hle
  have EA := Lib.hid (fun (i : Nat) (hi : i < P.length) v' w' (h : Sl w' v' (ivs (P.getD i []))) => rceach_any v' (P.getD i []) (ps.getD i (0, false)).1 (ps.getD i (0, false)).2 w' h (hql _ (get_mem hi)))
  obtain ⟨m, hm⟩ : ∃ m, P.length = m := ⟨_, rfl⟩
  have HM := Lib.hid hm
  rw [hm] at hlen hh CH EA
  rw [← hlen] at HP HB
  have HN := Lib.hid hlen
  clear hx hch hp hle hql hm hlen
  refine wp_loop (RpbInv g5 (.slice ro m rc) wd P ps w) (fun a _ => m - (intOf (a.tmps.getD 12 undef)).toNat) ?_ ?_
  · exact ⟨hh, 0, Nat.zero_le _, h12, h11, rfl, Kept.refl _ _⟩
  · clear hh h11 h12
    rintro ⟨tm, df⟩ w5 ⟨⟨rfl, hs, e5, e8, e9, e10⟩, i, hi, e12, e11, hza, hk⟩
    simp only at hs e5 e8 e9 e10 e12 e11
    rw [HM.out] at hi
    obtain ⟨f, hf, hg⟩ := fr_open hs
    have g5' := hg _ _ e5
    have g8 := hg _ _ e8
    have g9 := hg _ _ e9
    have g10 := hg _ _ e10
    have g12 := hg _ _ e12
    have g11 := hg _ _ e11
    simp only [List.range, List.range.loop, List.map] at hf
    rw [g5', g8, g9, g10, g12, g11] at hf
    clear g5' g8 g9 g10 g12 g11 hg hs e5 e8 e9 e10 e12 e11
    subst hf
    have HK := Lib.hid hk
    have HZ := Lib.hid hza
    clear hk hza
    by_cases hlt : i < m
    · have hdd : decide (i < m) = true := decide_eq_true hlt
      have hi1 : (i : Int) < (m : Int) := by omega
      obtain ⟨b1, o1, rfl, hc1⟩ := HP.out.at i (by rw [← HN.out]; exact hlt)
      obtain ⟨b2, o2, rfl, ro2, rc2, hc2⟩ := CH.out.row i (by rw [HM.out]; exact hlt)
      obtain ⟨y1, y2⟩ := hc1 w5 HK.out
      obtain ⟨x0, x1, x2⟩ := HB.out w5 HK.out
      have R2 := Lib.hid (fun w' (h : Kept Nix w5 w') => hc2 w' (nix_trans HK.out h))
      have EI := Lib.hid (EA.out i hlt)
      have ZS := Lib.hid (zsum_step (wA wd) P ps i (by rw [HM.out]; exact hlt) (by rw [← HN.out]; exact hlt))
      have ZA := Lib.hid (zall_step (wM wd) P ps i (by rw [HM.out]; exact hlt) (by rw [← HN.out]; exact hlt))
      have ZN := Lib.hid (zall_not (wM wd) P ps i (by rw [HM.out]; exact hlt) (by rw [← HN.out]; exact hlt))
      have ZF := Lib.hid (fun h => zsum_fits (m := wM wd) (a := wA wd) (P := P) (ps := ps) (i + 1) (wA_le wd) HLE.out.1 HLE.out.2 h)
      have ZF0 := Lib.hid (zsum_fits (m := wM wd) (a := wA wd) (P := P) (ps := ps) i (wA_le wd) HLE.out.1 HLE.out.2 HZ.out)
      have HI := Lib.hid hlt
      have HW := Lib.hid (show wrap64 ((i : Int) + 1) = ((i + 1 : Nat) : Int) by have := HLE.out.1; have := HM.out; rw [w64_in _ (by omega)]; omega)
      clear hc1 hc2 hlt hi EA
      generalize P.getD i [] = R at *
      generalize ps.getD i (0, false) = pk at *
      obtain ⟨pk, pr⟩ := pk
      simp only at y1 y2 EI ZS
      generalize R.length = ql at *
      go_upto_region 15 with fail
      have PC := Lib.hid (part_cells w5 pk pr 39)
      have K6 := Lib.hid ((Kept.refl Nix w5).alloc (.cells #[.int .i64 pk, .bool pr] 39))
      generalize w5.alloc (.cells #[.int .i64 pk, .bool pr] 39) = w6 at *
      generalize w5.heap.size = g6 at *
      obtain ⟨p1, p2, p3⟩ := PC.out w6.drew (Kept.refl _ _).drew
      obtain ⟨r1, r2⟩ := R2.out w6.drew K6.out.drew
      clear y1 y2 hdd x0 x1 x2
      go_region_law
        (first | (go_simp; go_at_call 37; refine (EI.out _ _ r2).mono ?_; rintro e w7 ⟨rfl, k7⟩; have K7 := Lib.hid k7; clear k7))
      all_goals
        have K67 := Lib.hid (show Kept Nix w6 w7 from nix_trans ((Kept.refl Nix w6).drew) K7.out)
        obtain ⟨q1, q2, q3⟩ := PC.out w7 K67.out
        clear p1 p2 p3 r1 r2 EI R2 q3
        have BC := bits_cases (wM wd) R pk pr
        obtain ⟨x, hx⟩ : ∃ x, ceach R pk pr = x := ⟨_, rfl⟩
        rw [hx] at BC ZS ⊢
        have KG := Lib.hid (nix_trans HK.out (nix_trans K6.out K67.out))
        clear hx
        rcases BC with ⟨bz, b1, b2⟩ | ⟨bz, bb⟩
        · have HZ2 := Lib.hid (show zall (wM wd) (P.take (i + 1)) (ps.take (i + 1)) = true by rw [ZA.out, HZ.out, bz]; rfl)
          have hz2 := ZF.out HZ2.out
          have hz1 := ZF0.out
          rw [ZS.out] at hz2
          have HZS := Lib.hid (show 6 + zsum (wA wd) (P.take (i + 1)) (ps.take (i + 1)) = 6 + zsum (wA wd) (P.take i) (ps.take i) + (wA wd : Int) + x by rw [ZS.out]; omega)
          have hwa := wA_le wd
          have e3 : wrap64 (6 + zsum (wA wd) (P.take i) (ps.take i) + (wA wd : Int)) = 6 + zsum (wA wd) (P.take i) (ps.take i) + (wA wd : Int) := w64_in _ (by omega)
          have e4 : wrap64 (6 + zsum (wA wd) (P.take i) (ps.take i) + (wA wd : Int) + x) = 6 + zsum (wA wd) (P.take i) (ps.take i) + (wA wd : Int) + x := w64_in _ (by omega)
          have E3 := Lib.hid (And.intro e3 e4)
          generalize zsum (wA wd) (P.take i) (ps.take i) = z at *
          clear hz1 hz2 bz e3 e4 ZF ZF0 ZN ZA ZS hwa
          rcases b2 with rfl | ⟨rfl, b3, b4⟩
          all_goals
            go_wp2
            rw [HW.out, E3.out.1, E3.out.2]
            exact ⟨⟨⟨rfl, rfl, rfl, rfl, rfl, rfl⟩, i + 1, by rw [HM.out]; exact HI.out, rfl, by rw [HZS.out]; rfl, HZ2.out, KG.out⟩, nearer HI.out rfl⟩
        · have HZN := Lib.hid (ZN.out bz)
          clear bz ZF ZF0 ZN ZA ZS
          generalize zsum (wA wd) (P.take i) (ps.take i) = z at *
          rcases bb with b1 | ⟨b1, rfl, b2⟩ | ⟨b1, rfl, b2, b3⟩
          all_goals
            go_wp2
            exact ⟨rfl, rfl, rfl, HZN.out, KG.out⟩
    · have hie : i = m := by omega
      subst hie
      have hdd : decide (i < i) = false := decide_eq_false hlt
      clear hlt hi
      have HT := Lib.hid (show P.take i = P ∧ ps.take i = ps from ⟨by rw [← HM.out, List.take_length], by rw [HN.out, List.take_length]⟩)
      have HZ2 := HZ.out
      rw [HT.out.1, HT.out.2] at HZ2
      rw [HT.out.1, HT.out.2]
      have HZ3 := Lib.hid HZ2
      clear HZ2
      go_wp2
      exact ⟨rfl, rfl, rfl, HZ3.out, HK.out⟩

theorem rpb_loop (g5 : Nat) (ro po : Option Addr) (rc pc : Nat) (wd : Bool) (o : Int) (P : List (List Int)) (ps : List (Int × Bool)) (a : Act) (w : World) (Q : Exit → Act → World → Prop)
    (hh : RpbH g5 (.slice ro P.length rc) wd a) (h11 : a.tmps[11]? = some (.int .i64 6)) (h12 : a.tmps[12]? = some (.int .i64 0))
    (hx : w.heap[g5]? = some (.cells #[.bool wd, .int .i64 o, .slice po ps.length pc] 26 (0, 0))) (hch : Chs w (.slice ro P.length rc) P) (hp : Pts w (.slice po ps.length pc) ps) (hlen : P.length = ps.length)
    (hle : P.length ≤ 32768 ∧ tl P ≤ 1048576) (hql : ∀ R, R ∈ P → R.length ≤ 1048576)
    (hQ : ∀ a' w', RpbEnd 11 (6 + zsum (wA wd) P ps) true wd P ps w a' w' → Q (.exit 0) a' w')
    (hR : ∀ a' w', RpbEnd 6 (-1) false wd P ps w a' w' → Q .ret a' w') : Code.wp Try.prog rpbL Q a w := by
  refine wp_mono (rpb_loop0 g5 ro po rc pc wd o P ps a w hh h11 h12 hx hch hp hlen hle hql) ?_
  intro e a' w' h
  split at h
  · exact hQ _ _ h
  · exact hR _ _ h
  · exact absurd h id

set_option maxRecDepth 10000 in
set_option maxHeartbeats 4000000 in
theorem rpbits_any (v : Value) (L : List Int) (k o : Nat) (wd : Bool) (vp : Value) (ps : List (Int × Bool)) (w : World) (hv : Sl w v (ivs L)) (hp : Pts w vp ps) (hl : L.length ≤ 1048576) (hk : k ≤ 1048576) (ho : o ≤ 15) :
    Calls Try.prog 22 #[v, .int .i64 (k : Int), .agg #[.bool wd, .int .i64 (o : Int), vp]] w fun e w' => e = .returned (.int .i64 (pbits (pcz L (cts L.length k o)) ps (wM wd) (wA wd))) ∧ Kept Nix w w' := by
  obtain ⟨ao, ca, rfl, -⟩ := hv.ints
  obtain ⟨po, pc, rfl, hp⟩ := hp.len
  have hb := heap_alloc_new w (.cells #[.bool wd, .int .i64 (o : Int), .slice po ps.length pc] 26)
  have k1 : Kept Nix w (w.alloc (.cells #[.bool wd, .int .i64 (o : Int), .slice po ps.length pc] 26)) := (Kept.refl _ w).alloc _
  have HB := Lib.hid hb
  have CU := Lib.hid (rcuts_any L.length k o (w.alloc (.cells #[.bool wd, .int .i64 (o : Int), .slice po ps.length pc] 26)) hl hk ho)
  unfold CutsPost at CU
  rw [ctI_nat] at CU
  have CT := Lib.hid (fun vc w' (h : Kept Nix w w') (hc : Sl w' vc (ivs (ni (cts L.length k o)))) => rsplit_any L (cts L.length k o) _ vc w' (hv.nix h) hc (cts_sum_le _ _ _) hl (cts_length_le _ _ _))
  have K1 := Lib.hid k1
  have HP := Lib.hid hp
  have hpl : (pcz L (cts L.length k o)).length = (cts L.length k o).length := pcz_length _ _
  have HLE := Lib.hid (And.intro (show (pcz L (cts L.length k o)).length ≤ 32768 by rw [pcz_length]; exact cts_length_le _ _ _) (show tl (pcz L (cts L.length k o)) ≤ 1048576 from Nat.le_trans (tl_pcz _ _) hl))
  have HQL := Lib.hid (show ∀ Q, Q ∈ pcz L (cts L.length k o) → Q.length ≤ 1048576 from fun Q hQ => by
    obtain ⟨i, hi, rfl⟩ := List.getElem_of_mem hQ
    have h1 := tl_get _ i hi
    rw [show (pcz L (cts L.length k o)).getD i [] = (pcz L (cts L.length k o))[i] by simp [List.getD, hi]] at h1
    exact Nat.le_trans h1 (Nat.le_trans (tl_pcz _ _) hl))
  clear hb k1 hv hp hl hk ho
  generalize pcz L (cts L.length k o) = P at *
  generalize cts L.length k o = C at *
  obtain ⟨R, hR⟩ : ∃ R, pbits P ps (wM wd) (wA wd) = R := ⟨_, rfl⟩
  rw [hR]
  have HR := Lib.hid hR
  clear hR
  obtain ⟨m, hm⟩ : ∃ m, P.length = m := ⟨_, rfl⟩
  have HM := Lib.hid hm
  rw [hm] at hpl
  rw [← hpl] at CU
  have HCL := Lib.hid hpl
  generalize hq : ps.length = q at *
  have HQ := Lib.hid hq
  clear hm hq hpl
  go_enter Try.func22, Try.ntmps22
  go_upto_region 1 with fail
  generalize w.alloc (.cells #[.bool wd, .int .i64 (o : Int), .slice po q pc] 26) = w1 at *
  generalize w.heap.size = g5 at *
  obtain ⟨x0, x1, x2⟩ := cells_three HB.out
  go_upto_region 2 with (first
    | (go_at_call 34; refine CU.out.mono ?_; rintro e w2 ⟨u2, rfl, o2, k2⟩; have K2 := Lib.hid k2; have C2 := Lib.hid (CT.out u2 w2 (nix_trans K1.out k2) (sl_of_owns o2)); obtain ⟨uo, uc, rfl, -⟩ := owns_shape o2; clear o2 k2 CU CT))
  clear x0 x1 x2
  have H2 := Lib.hid (K2.out.heap HB.out id)
  obtain ⟨x0, x1, x2⟩ := cells_three H2.out
  have E0 := HR.out
  unfold pbits at E0
  rw [HM.out] at E0
  have K3 := Lib.hid (nix_trans K1.out K2.out)
  by_cases h0 : m = 0
  · rw [if_pos (.inl h0)] at E0
    subst E0
    subst h0
    have KE := Lib.hid K3.out
    clear HR HLE HQL HB
    go_wp2
    go_ret
    exact ⟨rfl, KE.out⟩
  · have t0 : ((m : Int) == 0) = false := by simp; omega
    by_cases hq : m = q
    · subst hq
      have t1 : ((m : Int) != (m : Int)) = false := by simp
      have E0 := Lib.hid E0
      have h0 := Lib.hid h0
      cases wd
      all_goals
        go_wp2_with (first | (go_at_call 35; refine C2.out.mono ?_; rintro e w3 ⟨u3, rfl, ch3, k3⟩; have K4 := Lib.hid (nix_trans K3.out k3); have CH := Lib.hid ch3; have H3 := Lib.hid (k3.heap H2.out id); obtain ⟨y0, y1, y2⟩ := cells_three H3.out; have TP := Lib.hid (HP.out.nix K4.out); obtain ⟨ro, rc, rfl, -⟩ := ch3.open; clear ch3 k3 C2))
        refine rpb_loop g5 ro po rc pc _ (o : Int) P ps _ w3 _ ⟨rfl, rfl, rfl, rfl, rfl, rfl⟩ rfl rfl (by rw [HQ.out]; exact H3.out) CH.out (by rw [HQ.out]; exact TP.out) (by rw [HM.out, HQ.out]) HLE.out HQL.out ?_ ?_
        · rintro ⟨tm, df⟩ w4 ⟨rfl, hs, e11, hz, hk⟩
          simp only at hs e11
          obtain ⟨f, hf, hg⟩ := fr_open hs
          have g11 := hg _ _ e11
          simp only [List.range, List.range.loop, List.map] at hf
          rw [g11] at hf
          clear g11 hg hs e11
          subst hf
          have KE := Lib.hid (nix_trans K4.out hk)
          have e0 := E0.out
          rw [if_neg (by rw [HQ.out, hz]; rintro (h | h | h); exact h0.out h; exact h rfl; cases h)] at e0
          have E1 := Lib.hid e0
          clear hk hz e0 y0 y1 y2 x0 x1 x2 t0 t1 HR HLE HQL
          go_wp2
          go_ret
          exact ⟨by rw [← E1.out]; rfl, KE.out⟩
        · rintro ⟨tm, df⟩ w4 ⟨rfl, hs, e6, hz, hk⟩
          simp only at hs e6
          obtain ⟨f, hf, hg⟩ := fr_open hs
          have g6 := hg _ _ e6
          simp only [List.range, List.range.loop, List.map] at hf
          rw [g6] at hf
          clear g6 hg hs e6
          subst hf
          have KE := Lib.hid (nix_trans K4.out hk)
          have e0 := E0.out
          rw [if_pos (.inr (.inr hz))] at e0
          subst e0
          clear hk hz y0 y1 y2 x0 x1 x2 t0 t1 HR HLE HQL
          go_wp2
          go_ret
          exact ⟨rfl, KE.out⟩
    · have t1 : ((m : Int) != (q : Int)) = true := bne_iff_ne.2 (by omega)
      rw [if_pos (.inr (.inl (by rw [HQ.out]; exact hq)))] at E0
      subst E0
      clear hq
      go_wp2
      go_ret
      exact ⟨rfl, K3.out⟩

end Go.Proofs.Ytliggpidkdiinaa
