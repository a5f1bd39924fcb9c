/- The reference of layer 10: pieces of Solve: the next factors. -/
import Derived.Test.YtdifaaimjiflgaaSolR4
import Derived.Deep.RegionHeld3
namespace Go.Proofs.Ytdifaaimjiflgaa
open Go.RowKit Bx

noncomputable def rsolL5 : Code := (loopAt 27 (Try.f13.body.getD .skip)).getD .skip

def R5Inv (order e q : Int) (m n : Nat) (vx va vo : Value) (A : List Int) (w : World) (a : Act) (w' : World) : Prop :=
  RS order e m vx vo a ∧ a.tmps[9]? = some va ∧ a.tmps[14]? = some (.int .i64 q) ∧ ∃ i j : Nat, j = i + 1 ∧ i ≤ n ∧ a.tmps[16]? = some (.int .i64 (j : Int)) ∧ Kept Nix w w' ∧ ∃ vb, a.tmps[15]? = some vb ∧ w'.ownsRow w.heap.size 3 1 vb j (ivs (0 :: exts A q i))

theorem r5_bd (p ai : Int) (h1 : p.natAbs ≤ 70368744177664) (h2 : (ai - p / 1048576).natAbs ≤ 134217728) : In63 p ∧ IntKind.i64.wrap p = p ∧ wrap64 p = p ∧ IntKind.i64.wrap (ai - p / 1048576) = ai - p / 1048576 ∧ wrap64 (ai - p / 1048576) = ai - p / 1048576 := by
  refine ⟨⟨by omega, by omega⟩, ?_, ?_, ?_, ?_⟩
  · rw [IntKind.wrap_i64]; omega
  · unfold wrap64; omega
  · rw [IntKind.wrap_i64]; omega
  · unfold wrap64; omega

set_option maxRecDepth 10000 in
set_option maxHeartbeats 4000000 in
theorem rsol_l5 (order e q : Int) (m n : Nat) (vx va vo vb : Value) (x A : List Int) (a : Act) (w w0 : World) (Q : Exit → Act → World → Prop) (hrs : RS order e m vx vo a) (h9 : a.tmps[9]? = some va) (h14 : a.tmps[14]? = some (.int .i64 q)) (h15 : a.tmps[15]? = some vb) (h16 : a.tmps[16]? = some (.int .i64 1))
    (ha : Sl w va (ivs (0 :: A))) (hs : Sol x A e) (hq : -1048576 < q ∧ q < 1048576) (hn : A.length = n) (hm : m = n + 1) (hn32 : n < 32) (hb : w0.ownsRow w.heap.size 3 1 vb 1 (ivs [0])) (hk : Kept Nix w w0)
    (hQ : ∀ a' w' vb', RS order e m vx vo a' → a'.tmps[9]? = some va → a'.tmps[14]? = some (.int .i64 q) → a'.tmps[15]? = some vb' → w'.ownsRow w.heap.size 3 1 vb' m (ivs (0 :: exts A q n)) → Kept Nix w w' → Q (.exit 8) a' w') : Code.wp Try.prog rsolL5 Q a w0 := by
  obtain ⟨ao, ac, rfl, -, -⟩ := ha.ints
  have SA := Lib.hid ha
  have HX := Lib.hid (fun i => ext_nums hs q hq i)
  have HN := Lib.hid hn
  have HM := Lib.hid hm
  have HN32 := Lib.hid hn32
  have HQ := Lib.hid hQ
  clear ha hn hn32 hQ hs hq
  generalize haa : (0 :: A).length = la at *
  have HLA := Lib.hid (show la = m by rw [← haa, List.length_cons, HN.out, HM.out])
  clear haa
  refine wp_loop (R5Inv order e q m n vx (.slice ao la ac) vo A w) (fun a _ => m - (intOf (a.tmps.getD 16 undef)).toNat) ?_ ?_
  · exact ⟨hrs, h9, h14, 0, 1, rfl, Nat.zero_le _, h16, hk, vb, h15, hb⟩
  · clear hrs h9 h14 h15 h16 hm hb hk
    rintro ⟨tm, df⟩ w1 ⟨⟨rfl, hs, e1, e6, e8, e10, e11⟩, e9, e14, i, j0, hj0, hi, e16, hk, vb, e15, ho⟩
    simp only at hs e1 e6 e8 e10 e11 e9 e14 e16 e15
    obtain ⟨f, hf, hg⟩ := fr_open hs
    have g1 := hg _ _ e1
    have g6 := hg _ _ e6
    have g8 := hg _ _ e8
    have g10 := hg _ _ e10
    have g11 := hg _ _ e11
    have g9 := hg _ _ e9
    have g14 := hg _ _ e14
    have g16 := hg _ _ e16
    have g15 := hg _ _ e15
    simp only [List.range, List.range.loop, List.map] at hf
    rw [g1, g6, g8, g10, g11, g9, g14, g16, g15] at hf
    clear g1 g6 g8 g10 g11 g9 g14 g16 g15 hg hs e1 e6 e8 e10 e11 e9 e14 e16 e15
    subst hf
    have HK := Lib.hid hk
    have HO := Lib.hid ho
    clear hk ho
    by_cases hlt : i < n
    · obtain ⟨j, k, hj, hk, t1, t2, t3, t4, t5, t6, t7, t8⟩ := r4_nums m n i HM.out HN32.out hlt
      have hjj : j0 = j := by omega
      subst hjj
      have hkn : k = (n - 1 - i) + 1 := by have := HM.out; omega
      obtain ⟨b1, o1, rfl, hc1⟩ := cell_kept SA.out j0 (by rw [List.length_cons, HN.out]; have := HM.out; omega)
      obtain ⟨b2, o2, he, hc2⟩ := cell_kept SA.out k (by rw [List.length_cons, HN.out]; have := HM.out; omega)
      simp only [Option.some.injEq, Addr.mk.injEq, and_true] at he
      obtain ⟨rfl, rfl⟩ := he
      have C1 := Lib.hid hc1
      have C2 := Lib.hid hc2
      have c1 := hc1 _ HK.out
      have c2 := hc2 _ HK.out
      rw [hj, List.getD_cons_succ, ← hj] at c1
      have e2 : (0 :: A).getD k 0 = A.getD (A.length - 1 - i) 0 := by rw [hkn, List.getD_cons_succ, HN.out]
      rw [e2] at c2
      obtain ⟨q1, q2⟩ := HX.out i
      obtain ⟨p0, p1, p2, p3, p4⟩ := r5_bd _ _ q1 q2
      have HES := Lib.hid (exts_succ A q i)
      have i1 : (j0 : Int) < (la : Int) := by have := HLA.out; omega
      have i2 : (k : Int) < (la : Int) := by have := HLA.out; omega
      have HJ32 := Lib.hid (show j0 + 1 ≤ 40 by have := HN32.out; have := HM.out; omega)
      have T7 := Lib.hid t7
      have HI := Lib.hid hlt
      have HJ := Lib.hid hj
      have HT2 := Lib.hid t2
      have CC := Lib.hid (fun w' (h : Kept Nix w w') => And.intro (hc1 w' h) (hc2 w' h))
      rw [e2, show (0 :: A).getD j0 0 = A.getD i 0 by rw [hj, List.getD_cons_succ]] at CC
      clear hlt hi hj hk t7 t8 hc1 hc2 hj0 q1 q2 e2 hkn C1 C2 p2 p4
      generalize A.getD i 0 = ai at *
      generalize A.getD (A.length - 1 - i) 0 = ak at *
      have P0 := Lib.hid p0
      clear p0
      have B1 := Lib.hid (show j0 + 1 ≤ maxLen by have := HJ32.out; simp only [maxLen]; omega)
      have B2 := Lib.hid (show (j0 + 1) * 8 ≤ 140737488355328 by have := HJ32.out; omega)
      conv => arg 2; whnf
      go_wp2
      go_region_held3 (fun w' => w'.cell? ⟨b1, o1 + j0, none⟩ = some (.int .i64 ai) ∧ w'.cell? ⟨b1, o1 + k, none⟩ = some (.int .i64 ak))
        (first | go_keep | (exact HQ5.out) | (exact HQ6.out))
        (first
          | (go_at_call 21; refine (down_in _ _ (by decide) P0.out _).mono ?_; rintro e2 w5 ⟨rfl, hw5⟩; have hk5 : Kept Nix w w5 := (by rw [hw5]; exact HK.out.drew); have HQ5 := Lib.hid (CC.out _ hk5); have K5 := Lib.hid hk5; have O5 := Lib.hid (show (w5.alloc (.cells #[.int .i64 (ai - q * ak / 1048576)] 3)).ownsRow w.heap.size 3 1 vb j0 (ivs (0 :: exts A q i)) from (by rw [hw5]; exact ((Kept.refl Nix w1).drew.owns HO.out (fun _ _ h => h)).alloc _)); clear hk5 hw5)
          | (refine step_app (w5.alloc (.cells #[.int .i64 (ai - q * ak / 1048576)] 3)) rfl (.tmp 108) (.tmp 123) 22 rfl w.heap.size 3 (.int .i64 0) 1 8 Try.underlying22 info_int rfl (by decide) vb _ _ rfl O5.out _ 1 1 [.int .i64 (ai - q * ak / 1048576)] rfl (src_one w5 _ _ rfl) B1.out B2.out (by have := K5.out.size; simp; omega) ?_; intro v6 w6 o6 g6 n6; have k6 : Kept Nix w w6 := (K5.out.alloc _).grown g6 (fun kk hkk => .inr (O5.out.lt kk hkk).1); have HQ6 := Lib.hid (CC.out _ k6); have K6 := Lib.hid k6; have O6 := Lib.hid o6; clear k6 o6 g6 n6))
      all_goals
        go_wp2_with fail
        rw [T7.out]
        refine ⟨⟨⟨rfl, rfl, rfl, rfl, rfl, rfl, rfl⟩, rfl, rfl, i + 1, j0 + 1, by rw [HJ.out], HI.out, rfl, K6.out, v6, rfl, ?_⟩, nearer HT2.out rfl⟩
        rw [HES.out, ← List.cons_append, ivs_append]
        exact O6.out
    · have hie : i = n := by omega
      have hje : j0 = m := by have := HM.out; omega
      subst hie
      subst hje
      have hd : decide (j0 < j0) = false := decide_eq_false (by omega)
      clear hlt hi hj0
      conv => arg 2; whnf
      go_wp2
      refine HQ.out _ _ _ ?_ ?_ ?_ ?_ HO.out HK.out
      · exact ⟨rfl, rfl, rfl, rfl, rfl, rfl, rfl⟩
      · rfl
      · rfl
      · rfl

end Go.Proofs.Ytdifaaimjiflgaa
