/- The reference of layer 11: pieces of Quantise: what is told and carried. -/
import Derived.Test.YtgcokligilfkgaaRQu1
import Derived.Test.YtgcokligilfkgaaApp
namespace Go.Proofs.Ytgcokligilfkgaa
open Go.RowKit Bx

noncomputable def rquL3 : Code := (loopAt 23 (Try.f11.body.getD .skip)).getD .skip

theorem rq_nums {h : Int} {s : Nat} {zs : List Int} (f : Fit h (2 ^ s) zs) (hl : zs.length ≤ 32) (i : Nat) (hi : i < zs.length) : ∃ X W N T : Int, IntKind.i64.wrap (zs.getD i 0 * 2 ^ s) = X ∧ IntKind.i64.wrap (car h (2 ^ s) zs i + X) = W ∧ wnt h (2 ^ s) zs i = W ∧ wrap64 (W + 524288) = W + 524288 ∧ (W + 524288) / 1048576 = N ∧ tell h W = T ∧ -h ≤ N ∧ min N (h - 1) = T ∧ 2 ≤ h ∧
    wrap64 (-h) = -h ∧ wrap64 (h - 1) = h - 1 ∧ wrap64 (T * 1048576) = T * 1048576 ∧ wrap64 (W - T * 1048576) = car h (2 ^ s) zs (i + 1) ∧ wrap64 ((i : Int) + 1) = ((i + 1 : Nat) : Int) ∧ -9223372036854775807 ≤ W + 524288 ∧ W + 524288 ≤ 9223372036854775807 := by
  obtain ⟨w1, w2, x1, x2⟩ := wnt_bd f i hi hl
  have hb := car_bd f i (by omega)
  have hlow := tell_low f i hi
  have h1 := f.h1
  have h2 := f.h2
  have ht := tell_in h (wnt h (2 ^ s) zs i) (by omega)
  have hmn : min ((wnt h (2 ^ s) zs i + 524288) / 1048576) (h - 1) = tell h (wnt h (2 ^ s) zs i) := by unfold tell; omega
  refine ⟨zs.getD i 0 * 2 ^ s, wnt h (2 ^ s) zs i, _, _, ?_, ?_, rfl, w64_in _ (by omega), rfl, rfl, hlow, hmn, h1, w64_in _ (by omega), w64_in _ (by omega), w64_in _ (by omega), ?_, by unfold wrap64; omega, by omega, by omega⟩
  · rw [IntKind.wrap_i64]; omega
  · rw [IntKind.wrap_i64]; unfold wnt at w1 w2 ⊢; omega
  · rw [car_succ]
    exact w64_in _ (by omega)

theorem ivs_snoc (A : List Int) (x : Int) : ivs (A ++ [x]) = ivs A ++ [.int .i64 x] := by simp [ivs]

theorem keep_row {base : Nat} {w2 w6 : World} {e : TypeId} {v : Value} {n : Nat} {xs : List Value} {g2 : Nat} {o : Obj} (hx : w2.heap[g2]? = some o) (ho : w2.ownsRow base e 1 v n xs) (hlt : g2 < base) (hg : w2.grownBy w6 v.ownBlock) : w6.heap[g2]? = some o :=
  (hg.block g2 (lt_of_heap hx) (fun e => by have := (own_lt ho e.symm).1; omega)).trans hx

def Q3Inv (p h m : Int) (g g2 s n : Nat) (va : Value) (zs : List Int) (w : World) (a : Act) (w' : World) : Prop :=
  QRS p g va a ∧ a.tmps[8]? = some (.int .i64 h) ∧ a.tmps[9]? = some (.int .i64 (s : Int)) ∧ a.tmps[11]? = some (.pointer (some ⟨g2, 0, none⟩)) ∧ ∃ i : Nat, i ≤ n ∧ a.tmps[13]? = some (.int .i64 (i : Int)) ∧ a.tmps[12]? = some (.int .i64 (car h m zs i)) ∧
    ∃ u, w'.heap[g2]? = some (.cells #[.int .i64 (s : Int), .int .i64 p, u] 26 (0, 0)) ∧ w'.ownsRow w.heap.size 3 1 u i (ivs (toldF h m zs i)) ∧ Kept (fun k => k = g2) w w'

set_option maxRecDepth 10000 in
set_option maxHeartbeats 2000000 in
theorem rqu_l3 (p h : Int) (g g2 s : Nat) (va : Value) (zs : List Int) (a : Act) (w : World) (Q : Exit → Act → World → Prop) (hrs : QRS p g va a) (h8 : a.tmps[8]? = some (.int .i64 h)) (h9 : a.tmps[9]? = some (.int .i64 (s : Int))) (h11 : a.tmps[11]? = some (.pointer (some ⟨g2, 0, none⟩)))
    (h13 : a.tmps[13]? = some (.int .i64 0)) (h12 : a.tmps[12]? = some (.int .i64 0)) (hg2 : w.heap[g2]? = some (.cells #[.int .i64 (s : Int), .int .i64 p, .slice none 0 0] 26 (0, 0)))
    (hz : ∀ w', Kept (fun k => k = g2) w w' → Sl w' va (ivs zs)) (hf : Fit h (2 ^ s) zs) (hs : s ≤ 15) (hl : zs.length ≤ 32)
    (hQ : ∀ a' w' u, QRS p g va a' → a'.tmps[11]? = some (.pointer (some ⟨g2, 0, none⟩)) → w'.heap[g2]? = some (.cells #[.int .i64 (s : Int), .int .i64 p, u] 26 (0, 0)) → w'.ownsRow w.heap.size 3 1 u zs.length (ivs (tolds h (2 ^ s) zs)) → Kept (fun k => k = g2) w w' → Q (.exit 4) a' w') : Code.wp Try.prog rquL3 Q a w := by
  obtain ⟨ao, ca, rfl, hac, -⟩ := (hz w (Kept.refl _ w)).ints
  have SX := Lib.hid hz
  have HF := Lib.hid (fun i hi => rq_nums hf hl i hi)
  have HL := Lib.hid hl
  have HQ := Lib.hid hQ
  have HTS := Lib.hid (fun i => toldF_succ h (2 ^ s) zs i)
  have HTZ := Lib.hid (show tolds h (2 ^ s) zs = toldF h (2 ^ s) zs zs.length from rfl)
  have HG := Lib.hid (lt_of_heap hg2)
  have PW := Lib.hid (fun w => rpower_any s (by omega) w)
  clear hz hf hl hQ hac
  generalize hn : zs.length = n at *
  have HN := Lib.hid hn
  clear hn
  generalize (2 : Int) ^ s = m at *
  refine wp_loop (Q3Inv p h m g g2 s n (.slice ao n ca) zs w) (fun a _ => n - (intOf (a.tmps.getD 13 undef)).toNat) ?_ ?_
  · exact ⟨hrs, h8, h9, h11, 0, Nat.zero_le _, h13, h12, _, hg2, World.ownsRow_nil _ _ _ _, Kept.refl _ _⟩
  · clear hrs h8 h9 h11 h13 h12 hg2
    rintro ⟨tm, df⟩ w1 ⟨⟨rfl, hs, e0, e1, e4⟩, e8, e9, e11, i, hi, e13, e12, u, hh, ho, hk⟩
    simp only at hs e0 e1 e4 e8 e9 e11 e12 e13
    obtain ⟨f, hf, hg⟩ := fr_open hs
    have g0 := hg _ _ e0
    have g1 := hg _ _ e1
    have g4 := hg _ _ e4
    have g8 := hg _ _ e8
    have g9 := hg _ _ e9
    have g11 := hg _ _ e11
    have g12 := hg _ _ e12
    have g13 := hg _ _ e13
    simp only [List.range, List.range.loop, List.map] at hf
    rw [g0, g1, g4, g8, g9, g11, g12, g13] at hf
    clear g0 g1 g4 g8 g9 g11 g12 g13 hg hs e0 e1 e4 e8 e9 e11 e12 e13
    subst hf
    have HK := Lib.hid hk
    have HO := Lib.hid ho
    have HH := Lib.hid hh
    obtain ⟨uo, uc, rfl, -, -⟩ := owns_shape ho
    clear hh ho
    by_cases hlt : i < n
    · obtain ⟨b1, o1, rfl, hc1⟩ := cell_kept (SX.out w1 hk) i (by rw [HN.out]; exact hlt)
      have c1 := hc1 _ (Kept.refl _ w1)
      have hi1 : (i : Int) < (n : Int) := by omega
      have hdd : decide (i < n) = true := decide_eq_true hlt
      obtain ⟨X, W, N, T, m1, m2, m3, m4, m5, m6, m7, m8, m9, m10, m11, m12, m13, m14, m15, m16⟩ := HF.out i hlt
      have HW1 := Lib.hid m14
      have HI := Lib.hid hlt
      have HT := Lib.hid (HTS.out i)
      have N12 := Lib.hid m12
      have N13 := Lib.hid m13
      have DN := Lib.hid (fun w => down_by (W + 524288) 1048576 (by decide) ⟨m15, m16⟩ w)
      rw [m5] at DN
      rw [m3, m6] at HT
      have HM := Lib.hid (And.intro m7 (And.intro m8 m9))
      clear hc1 hlt hi hk m12 m13 m14 m15 m16 m3 m5 m6 m7 m8 m9
      generalize zs.getD i 0 = x at *
      generalize car h m zs i = c at *
      generalize toldF h m zs i = TT at *
      conv => arg 2; whnf
      go_upto_region 25 with fail
      go_quiet ((go_at_call 17; exact Calls.quiet_of_same (PW.out _)))
      clear m1 m2 c1 hdd
      have KX := Lib.hid (HK.out.drewN nq)
      have OX := Lib.hid (show (w1.drewN nq).ownsRow w.heap.size 3 1 (.slice uo i uc) i (ivs TT) from (((Kept.refl Nix w1).drewN nq).owns HO.out (fun _ _ h => h)))
      have HX : Hid ((w1.drewN nq).heap[g2]? = some (.cells #[.int .i64 (s : Int), .int .i64 p, .slice uo i uc] 26 (0, 0))) := Lib.hid HH.out
      clear HK HO HH
      generalize w1.drewN nq = wx at *
      have O8 := Lib.hid (OX.out.alloc (.cells #[.int .i64 T] 3))
      have HB1 := Lib.hid (show i + 1 ≤ maxLen by have := HI.out; have := HL.out; simp only [maxLen]; omega)
      have HB2 := Lib.hid (show (i + 1) * 8 ≤ 140737488355328 by have := HI.out; have := HL.out; omega)
      have HBS := Lib.hid (show w.heap.size ≤ (wx.alloc (.cells #[.int .i64 T] 3)).heap.size by have h1 := KX.out.size; simp; omega)
      have x2 : wx.cell? ⟨g2, 2, none⟩ = some (.slice uo i uc) := by rw [cell_of HX.out]; rfl
      by_cases ht : h - 1 < N
      · have d1 : decide (h - 1 < N) = true := decide_eq_true ht
        have d2 : decide (h - 1 < -h) = false := decide_eq_false (by have := HM.out.2.2; omega)
        obtain rfl : T = h - 1 := by have := HM.out.2.1; omega
        go_wp2_with (first
          | (go_at_call 18; refine (DN.out _).mono ?_; rintro e w' ⟨rfl, rfl⟩)
          | (refine wpList_app _ rfl _ _ 22 rfl w.heap.size 3 (.int .i64 0) 1 8 Try.underlying22 info_int rfl (by decide) (.slice uo i uc) i (ivs TT) rfl O8.out (some ⟨_, 0, none⟩) 1 1 [.int .i64 _] rfl (src_one _ _ _ rfl) HB1.out HB2.out HBS.out ?_
             intro v6 w6 o6 g6 n6
             obtain ⟨vo, vc, rfl, -, -⟩ := owns_shape o6
             have h6 := keep_row ((Kept.alloc (Kept.refl Nix _) _).heap HX.out id) O8.out HG.out g6
             have x6 : w6.cell? ⟨g2, 2, none⟩ = some (.slice uo i uc) := by rw [cell_of h6]; rfl
             have z6 : w6.frozen? ⟨g2, 2, none⟩ = false := frozen_of h6
             have H6 := Lib.hid h6; have O6 := Lib.hid o6; have G6 := Lib.hid g6; clear o6 g6 n6 h6))
        rw [HW1.out]
        refine ⟨⟨⟨rfl, rfl, rfl, rfl, rfl⟩, rfl, rfl, rfl, i + 1, HI.out, rfl, ?_, .slice vo (i + 1) vc, heap_set H6.out, ?_, ((KX.out.alloc _).grown G6.out (fun k hk => .inr (O8.out.lt k hk).1)).setCell (.inl rfl) _⟩, nearer HI.out rfl⟩
        · exact congrArg (fun z => some (Value.int IntKind.i64 z)) ((congrArg (fun z => wrap64 (W - z)) N12.out).trans N13.out)
        · rw [HT.out, ivs_snoc]
          exact ((Kept.refl (fun k => k = g2) w6).setCell (p := ⟨g2, 2, none⟩) (.inl rfl) (.slice vo (i + 1) vc)).owns O6.out (fun k hk e => by have := (own_lt O6.out hk).1; have := HG.out; omega)
      · have d1 : decide (h - 1 < N) = false := decide_eq_false ht
        have d2 : decide (N < -h) = false := decide_eq_false (by have := HM.out.1; omega)
        obtain rfl : T = N := by have := HM.out.2.1; omega
        go_wp2_with (first
          | (go_at_call 18; refine (DN.out _).mono ?_; rintro e w' ⟨rfl, rfl⟩)
          | (refine wpList_app _ rfl _ _ 22 rfl w.heap.size 3 (.int .i64 0) 1 8 Try.underlying22 info_int rfl (by decide) (.slice uo i uc) i (ivs TT) rfl O8.out (some ⟨_, 0, none⟩) 1 1 [.int .i64 _] rfl (src_one _ _ _ rfl) HB1.out HB2.out HBS.out ?_
             intro v6 w6 o6 g6 n6
             obtain ⟨vo, vc, rfl, -, -⟩ := owns_shape o6
             have h6 := keep_row ((Kept.alloc (Kept.refl Nix _) _).heap HX.out id) O8.out HG.out g6
             have x6 : w6.cell? ⟨g2, 2, none⟩ = some (.slice uo i uc) := by rw [cell_of h6]; rfl
             have z6 : w6.frozen? ⟨g2, 2, none⟩ = false := frozen_of h6
             have H6 := Lib.hid h6; have O6 := Lib.hid o6; have G6 := Lib.hid g6; clear o6 g6 n6 h6))
        rw [HW1.out]
        refine ⟨⟨⟨rfl, rfl, rfl, rfl, rfl⟩, rfl, rfl, rfl, i + 1, HI.out, rfl, ?_, .slice vo (i + 1) vc, heap_set H6.out, ?_, ((KX.out.alloc _).grown G6.out (fun k hk => .inr (O8.out.lt k hk).1)).setCell (.inl rfl) _⟩, nearer HI.out rfl⟩
        · exact congrArg (fun z => some (Value.int IntKind.i64 z)) ((congrArg (fun z => wrap64 (W - z)) N12.out).trans N13.out)
        · rw [HT.out, ivs_snoc]
          exact ((Kept.refl (fun k => k = g2) w6).setCell (p := ⟨g2, 2, none⟩) (.inl rfl) (.slice vo (i + 1) vc)).owns O6.out (fun k hk e => by have := (own_lt O6.out hk).1; have := HG.out; omega)
    · have hie : i = n := by omega
      subst hie
      have hd : decide (i < i) = false := decide_eq_false hlt
      clear hlt hi hk
      conv => arg 2; whnf
      go_wp2
      exact HQ.out _ _ _ ⟨rfl, rfl, rfl, rfl, rfl⟩ rfl HH.out (by rw [HTZ.out]; exact HO.out) HK.out

end Go.Proofs.Ytgcokligilfkgaa
