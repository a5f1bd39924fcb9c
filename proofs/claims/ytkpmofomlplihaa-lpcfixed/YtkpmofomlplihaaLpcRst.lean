/- Package lpc: Restore. -/
import Derived.Test.YtkpmofomlplihaaLpcRes
import Derived.Test.YtkpmofomlplihaaChsTwo
import Derived.Deep.RegionLaw
namespace Go.Proofs.Ytkpmofomlplihaa
open Go.RowKit Bx

theorem lrst_near_take {F A B : List Int} {S : Nat} (h : near (lrst F S A B) = true) (i : Nat) : Bd 1099511627776 (lrst F S A (B.take i)) := by
  rw [← lrst_take]
  exact (near_bd h).take _

/-- What is wrong, and what is restored. -/
def lrstE (s p : Int) (F A : List Int) : Int := if lpcB s p F = true then 1 else if A.length = F.length then 0 else 1
def lrstL (s p : Int) (F A B : List Int) : List Int := if lrstE s p F A = 0 then lrst F s.toNat A B else []

def LRstPost (s p : Int) (F A B : List Int) (w : World) (e : Ending) (w' : World) : Prop :=
  ∃ u, e = .returned (.tuple #[u, .int .i64 (lrstE s p F A)]) ∧ w'.ownsRow w.heap.size 3 1 u (lrstL s p F A B).length (ivs (lrstL s p F A B)) ∧ Kept Nix w w'

theorem lrst_bad {s p : Int} {F A : List Int} (B : List Int) (h : lrstE s p F A = 1) {w w' : World} (hk : Kept Nix w w') : LRstPost s p F A B w (.returned (.tuple #[.slice none 0 0, .int .i64 1])) w' := by
  have hl : lrstL s p F A B = [] := by unfold lrstL; rw [if_neg (by rw [h]; decide)]
  exact ⟨_, by rw [h], by rw [hl]; exact World.ownsRow_nil _ _ _ _, hk⟩

theorem lrstE_check {s p : Int} {F : List Int} (A : List Int) (h : lpcB s p F = true) : lrstE s p F A = 1 := by unfold lrstE; rw [if_pos h]
theorem lrstE_len {s p : Int} {F A : List Int} (h : ¬ A.length = F.length) : lrstE s p F A = 1 := by unfold lrstE; rw [if_neg h]; simp
theorem lrstE_ok {s p : Int} {F A : List Int} (h : lpcB s p F = false) (h2 : A.length = F.length) : lrstE s p F A = 0 := by unfold lrstE; rw [if_neg (by rw [h]; decide), if_pos h2]
theorem lrstL_ok {s p : Int} {F A : List Int} (B : List Int) (h : lpcB s p F = false) (h2 : A.length = F.length) : lrstL s p F A B = lrst F s.toNat A B := by unfold lrstL; rw [if_pos (lrstE_ok h h2)]

theorem mid_bd {F A B : List Int} {S i : Nat} (h1 : Bd 1099511627776 (lrst F S A (B.take i))) (h2 : Bd 1099511627776 B) : Bd 1099511627776 (mid F S A B i) := by
  apply bd_of_mem
  intro n hn
  rcases List.mem_append.1 hn with h | h
  · exact h1.mem n h
  · exact h2.mem n (List.mem_of_mem_drop h)

theorem lrst_nums {F A B : List Int} {S n m l i : Nat} (hnl : n + m = l) (hF : Bd 16384 F) (hB : Bd 1099511627776 B) (hp : Bd 1099511627776 (lrst F S A (B.take i))) (hn : F.length = n) (hn2 : n ≤ 32) (hm : m < 1000000) (hi : i < m) :
    IntKind.i64.wrap ((n : Int) + (i : Int)) = ((n + i : Nat) : Int) ∧ IntKind.i64.wrap (B.getD i 0 + td F S (lrst F S A (B.take i)) (n + i)) = B.getD i 0 + td F S (lrst F S A (B.take i)) (n + i) ∧ wrap64 ((i : Int) + 1) = ((i + 1 : Nat) : Int) ∧ ((n + i : Nat) : Int) < (l : Int) ∧ (i : Int) < (m : Int) := by
  have h1 := td_big hF hp (by omega) S (n + i)
  have h2 := hB.any (by decide) i
  refine ⟨?_, ?_, ?_, by omega, by omega⟩
  · rw [IntWalk.i64_in _ (by omega)]; omega
  · exact IntWalk.i64_in _ (by omega)
  · rw [w64_in _ (by omega)]; omega

def LRstInv (vx vf : Value) (n m l b : Nat) (F A B : List Int) (S : Nat) (w : World) (a : Act) (w' : World) : Prop :=
  a.defers = [] ∧ a.tmps.size = 54 ∧ a.tmps[9]? = some (.int .i64 (n : Int)) ∧ a.tmps[10]? = some vf ∧ a.tmps[11]? = some vx ∧ a.tmps[32]? = some (.int .i64 (m : Int)) ∧
  ∃ i : Nat, i ≤ m ∧ a.tmps[33]? = some (.int .i64 (i : Int)) ∧ w'.ownsRow b 3 1 vx l (ivs (mid F S A B i)) ∧ Kept Nix w w'

set_option maxRecDepth 10000 in
set_option maxHeartbeats 4000000 in
theorem lrst_any (s p : Int) (u va vb : Value) (F A B : List Int) (w : World) (hu : Sl w u (ivs F)) (ha : Sl w va (ivs A)) (hb : Sl w vb (ivs B)) (hl : B.length < 1000000) (hB : Bd 1099511627776 B) (hP : lrstE s p F A = 0 → ∀ i, i < B.length → Bd 1099511627776 (lrst F s.toNat A (B.take i))) :
    Calls Try.prog 18 #[va, vb, .agg #[.int .i64 s, .int .i64 p, u]] w (LRstPost s p F A B w) := by
  obtain ⟨ao, ca, rfl, -⟩ := hu.ints
  obtain ⟨wo, cw, rfl, -⟩ := ha.ints
  obtain ⟨bo, cb, rfl, -⟩ := hb.ints
  have k1 : Kept Nix w (w.alloc (.cells #[.int .i64 s, .int .i64 p, .slice ao F.length ca] 24)) := (Kept.refl _ w).alloc _
  have HB := Lib.hid (heap_alloc_new w (.cells #[.int .i64 s, .int .i64 p, .slice ao F.length ca] 24))
  have CK := Lib.hid (check_any s p _ F _ (hu.nix k1))
  have HU := Lib.hid (hu.nix k1)
  have HVA := Lib.hid (ha.nix k1)
  have HVB := Lib.hid (hb.nix k1)
  have K1 := Lib.hid k1
  have HBD := Lib.hid hB
  have HPR0 := Lib.hid hP
  have HL := Lib.hid hl
  clear hu ha hb k1 hl hB hP
  have hmf : ∀ (fn : Fn) (first cap : Array Value) (w : World), (Instr.makeFunc fn first cap).run Try.prog w = .ok (.func fn first cap) w := fun _ _ _ _ => rfl
  unfold lpcE at CK
  cases hb : lpcB s p F with
  | true =>
    have HP := Lib.hid (fun w' (hk : Kept Nix w w') => lrst_bad B (lrstE_check A hb) hk)
    rw [if_pos hb] at CK
    clear hb
    generalize F.length = n at *
    generalize A.length = l at *
    generalize B.length = m at *
    go_enter Try.func18, Try.ntmps18
    go_upto_region 1 with fail
    generalize w.alloc (.cells #[.int .i64 s, .int .i64 p, .slice ao n ca] 24) = w1 at *
    go_wp2_with (first
      | (refine wpList_load_row rfl 24 _ rfl w.heap.size rfl 24 _ (0, 0) _ HB.out Try.underlying24 rfl size_lpc ?_)
      | (go_at_call 14; refine CK.out.mono ?_; rintro e w2 ⟨rfl, k2⟩; have K2 := Lib.hid (nix_trans K1.out k2); clear k2 CK))
    go_ret2
    exact HP.out _ K2.out
  | false =>
    rw [if_neg (by rw [hb]; decide)] at CK
    by_cases hsh : A.length = F.length
    · have OK := Lib.hid (lpc_ok hb)
      obtain ⟨S, rfl⟩ : ∃ S : Nat, s = (S : Int) := ⟨s.toNat, by have := OK.out.s0; omega⟩
      have HG := Lib.hid (And.intro (lrstE_ok hb hsh) (lrstL_ok B hb hsh))
      have HPR := Lib.hid (HPR0.out (lrstE_ok hb hsh))
      clear HPR0
      simp only [Int.toNat_natCast] at HG HPR
      have HF2 := Lib.hid (show (A ++ B).length = F.length + B.length by rw [List.length_append, hsh])
      have HMID := Lib.hid (fun i (hi : i < B.length) => mid_at F S A B i hi)
      have HSET := Lib.hid (fun i (hi : i < B.length) => mid_set F S A B i hi)
      have HWIN := Lib.hid (fun i (hi : i < B.length) => mid_win F S A B i hsh hi)
      have HML := Lib.hid (fun i (hi : i ≤ B.length) => mid_length F S A B i hi)
      have HLAST := Lib.hid (mid_last F S A B)
      have HLL := Lib.hid (lrst_length F S A B)
      have hd : ((A.length : Int) != (F.length : Int)) = false := by rw [hsh]; exact bne_self_eq_false _
      have HN32 := Lib.hid OK.out.hi
      have HN1 := Lib.hid OK.out.lo
      rw [hsh] at HVA hd HMID HSET HWIN HML HLL
      rw [hsh]
      clear hb
      have HSH := Lib.hid hsh
      clear hsh
      generalize hn : F.length = n at *
      generalize hm : B.length = m at *
      have HN := Lib.hid hn
      have HM := Lib.hid hm
      generalize hnl : n + m = l at *
      have HNL := Lib.hid hnl
      clear hn hm hnl
      go_enter Try.func18, Try.ntmps18
      go_upto_region 1 with fail
      generalize w.alloc (.cells #[.int .i64 (S : Int), .int .i64 p, .slice ao n ca] 24) = w1 at *
      go_upto_region 8 with (first
        | (refine wpList_load_row rfl 24 _ rfl w.heap.size rfl 24 _ (0, 0) _ HB.out Try.underlying24 rfl size_lpc ?_)
        | (refine wpList_load_row rfl 24 _ rfl w.heap.size rfl 24 _ (0, 0) _ HB2.out Try.underlying24 rfl size_lpc ?_)
        | (go_at_call 14; refine CK.out.mono ?_; rintro e w2 ⟨rfl, k2⟩; have K12 := Lib.hid k2; have HB2 := Lib.hid (k2.heap HB.out id); have y2 : w2.cell? ⟨w.heap.size, 2, none⟩ = some (.slice ao n ca) := (by rw [cell_of HB2.out]; rfl); clear k2 CK))
      have HC := Lib.hid (concat_any _ _ _ (chs_two w2 _ _ _ _ (HVA.out.nix K12.out) (HVB.out.nix K12.out) 22) (show 2 < 1099511627776 by decide) (by have := HL.out; have := HN32.out; have := HNL.out; simp only [List.flatten_cons, List.flatten_nil, List.append_nil]; rw [HF2.out]; omega))
      simp only [List.flatten_cons, List.flatten_nil, List.append_nil] at HC
      rw [HF2.out] at HC
      have K2 := Lib.hid (nix_trans K1.out K12.out)
      clear hd y2
      go_wp2_with (go_at_call 25; refine HC.out.mono ?_; rintro e w3 ⟨u3, rfl, ho3, hk3⟩; have HO3 := Lib.hid ho3; have K3 := Lib.hid hk3; clear ho3 hk3; obtain ⟨g, xcap, hu3, hx1, -, hx2, -⟩ := owns_pos HO3.out (show 0 < l by have := HN1.out; have := HNL.out; omega); obtain rfl := hu3; have HXC := Lib.hid hx1; have HXG := Lib.hid hx2; clear hx1 hx2)
      clear HC
      have K13 := Lib.hid (nix_trans (K12.out.alloc _) K3.out)
      have HG1 := Lib.hid (show w1.heap.size ≤ g from Nat.le_trans (K12.out.alloc _).size HXG.out)
      refine wp_loop (LRstInv (.slice (some ⟨g, 0, none⟩) l xcap) (.func (.func 21) #[.agg #[.int .i64 (S : Int), .int .i64 p, .slice ao n ca]] #[]) n m l w1.heap.size F A B S w1) (fun a _ => m - (intOf (a.tmps.getD 33 undef)).toNat) ?_ ?_
      · refine ⟨rfl, rfl, rfl, rfl, rfl, rfl, 0, Nat.zero_le _, rfl, ?_, K13.out⟩
        rw [mid_zero]
        exact owns_weak HO3.out (K12.out.alloc _).size
      · clear HO3 K3 hmf
        rintro ⟨tm, df⟩ w4 ⟨rfl, hs, h9, h10, h11, h32, i, hi, h33, ho, hk⟩
        simp only at hs h9 h10 h11 h32 h33
        obtain ⟨f, hf, hg⟩ := fr_open hs
        have e9 := hg _ _ h9
        have e10 := hg _ _ h10
        have e11 := hg _ _ h11
        have e32 := hg _ _ h32
        have e33 := hg _ _ h33
        simp only [List.range, List.range.loop, List.map] at hf
        rw [e9, e10, e11, e32, e33] at hf
        clear e9 e10 e11 e32 e33 hg hs h9 h10 h11 h32 h33
        subst hf
        have HK := Lib.hid hk
        have HO := Lib.hid ho
        clear ho hk
        by_cases hlt : i < m
        · have hpr := HPR.out i hlt
          obtain ⟨m1, m2, m3, m4, m5⟩ := lrst_nums (S := S) HNL.out OK.out.bd HBD.out hpr HN.out HN32.out HL.out hlt
          have hmb : Bd 1099511627776 (mid F S A B i) := mid_bd hpr HBD.out
          have hW := fun w => run_win_i w (some ⟨g, 0, none⟩) l xcap i (n + i) (by omega) (by have := HXC.out; have := HNL.out; omega)
          rw [show n + i - i = n by omega] at hW
          have FO := Lib.hid (fore_any S p _ _ F (((mid F S A B i).drop i).take n) w4.drew (HU.out.nix HK.out.drew) (sl_win ((sl_of_owns HO.out).nix ((Kept.refl _ w4).drew)) i n (by have := HNL.out; omega)) OK.out.bd (bd_take (bd_drop hmb i) n) (by have := HNL.out; rw [List.length_take, List.length_drop, HML.out i (by omega), HN.out]; omega) (by rw [HN.out]; exact HN32.out) (by have := OK.out.s15; omega))
          have LT := HWIN.out i hlt
          rw [HN.out] at FO
          rw [LT] at FO
          have HI := Lib.hid hlt
          have M3 := Lib.hid m3
          have HST := Lib.hid (HSET.out i hlt)
          have HAT := HMID.out i hlt
          have HML2 := Lib.hid (HML.out i (by omega))
          have hc3 : w4.drew.cell? ⟨g, n + i, none⟩ = some (.int .i64 (B.getD i 0)) := (show w4.drew.cell? ⟨g, n + i, none⟩ = w4.cell? ⟨g, n + i, none⟩ from rfl).trans ((HO.out.cellAt (n + i) (by have := HNL.out; omega)).trans (by have := HNL.out; rw [ivs_get _ _ (by rw [HML2.out]; omega), HAT]))
          have CL := Lib.hid (fun w' (h : Kept Nix w4 w') => (show w'.cell? ⟨g, n + i, none⟩ = some (.int .i64 (B.getD i 0)) from ((h.owns HO.out (fun _ _ h => h)).cellAt (n + i) (by have := HNL.out; omega)).trans (by have := HNL.out; rw [ivs_get _ _ (by rw [HML2.out]; omega), HAT])))
          have CF := Lib.hid (fun w' (h : Kept Nix w4 w') => (show w'.frozen? ⟨g, n + i, none⟩ = false from (h.owns HO.out (fun _ _ h => h)).frozenAt (n + i)))
          clear hlt hi m3 LT HAT hpr hmb
          generalize (if xcap = i then some ({ block := g, off := 0 } : Addr) else _) = aoV at *
          generalize xcap - i = cV at *
          generalize hni : n + i = ni at *
          have HNI := Lib.hid hni
          clear hni
          generalize B.getD i 0 = xi at *
          generalize td F S (lrst F S A (B.take i)) ni = ti at *
          go_wp2_with fail
          go_region_law
            (first
              | (go_simp; go_at_call 21; refine FO.out.mono ?_; rintro e w5 ⟨rfl, hw5⟩; have K5 := Lib.hid (show Kept Nix w4 w5 by rw [hw5]; exact ((Kept.refl _ _).drew).alloc _); have c5 := CL.out _ K5.out; have z5 := CF.out _ K5.out; clear hw5))
          all_goals
            have KW := Lib.hid (nix_trans HK.out K5.out)
            have O5 := Lib.hid (K5.out.owns HO.out (fun _ _ h => h))
            clear hc3 c5 z5 hW m1 m2 m4 m5
            go_wp2
            rw [M3.out]
            refine ⟨⟨rfl, rfl, rfl, rfl, rfl, rfl, i + 1, HI.out, rfl, ?_, KW.out.setCell (.inr HG1.out) _⟩, nearer HI.out rfl⟩
            rw [← HST.out, ← ivs_set]
            exact (O5.out.stored ni _).1
        · have hie : i = m := by omega
          subst hie
          have hdd : decide (i < i) = false := decide_eq_false hlt
          have h2 := HO.out
          rw [HLAST.out] at h2
          have HO2 := Lib.hid h2
          clear h2 hlt hi
          go_wp2
          go_ret2
          exact ⟨_, by rw [HG.out.1]; rfl, by rw [HG.out.2, HLL.out]; exact owns_weak HO2.out K1.out.size, nix_trans K1.out HK.out⟩
    · have HP := Lib.hid (fun w' (hk : Kept Nix w w') => lrst_bad B (lrstE_len (s := s) (p := p) hsh) hk)
      have hd : ((A.length : Int) != (F.length : Int)) = true := bne_iff_ne.2 (by omega)
      clear hb hsh
      generalize F.length = n at *
      generalize A.length = l at *
      generalize B.length = m at *
      go_enter Try.func18, Try.ntmps18
      go_upto_region 1 with fail
      generalize w.alloc (.cells #[.int .i64 s, .int .i64 p, .slice ao n ca] 24) = w1 at *
      go_wp2_with (first
        | (refine wpList_load_row rfl 24 _ rfl w.heap.size rfl 24 _ (0, 0) _ HB.out Try.underlying24 rfl size_lpc ?_)
        | (go_at_call 14; refine CK.out.mono ?_; rintro e w2 ⟨rfl, k2⟩; have K2 := Lib.hid (nix_trans K1.out k2); have hb2 := k2.heap HB.out id; have y2 : w2.cell? ⟨w.heap.size, 2, none⟩ = some (.slice ao n ca) := (by rw [cell_of hb2]; rfl); clear k2 CK hb2))
      go_ret2
      exact HP.out _ K2.out

end Go.Proofs.Ytkpmofomlplihaa
