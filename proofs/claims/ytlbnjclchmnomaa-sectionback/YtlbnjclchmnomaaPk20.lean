/- Package parts: the plan of sums. -/
import Derived.Test.YtlbnjclchmnomaaPk18

namespace Go.Proofs.Ytlbnjclchmnomaa
open Go.RowKit Bx

def PlanInv (g3 g6 g10 n m a o : Nat) (wd : Bool) (P : List (List Int)) (w2 : World) (f : Act) (w' : World) : Prop :=
  f.defers = [] ∧ f.tmps.size = 50 ∧ f.tmps[3]? = some (.pointer (some ⟨g3, 0, none⟩)) ∧ f.tmps[6]? = some (.pointer (some ⟨g6, 0, none⟩)) ∧ f.tmps[8]? = some (.int .i64 (m : Int)) ∧ f.tmps[9]? = some (.int .i64 (a : Int)) ∧ f.tmps[10]? = some (.pointer (some ⟨g10, 0, none⟩)) ∧ f.tmps[25]? = some (.int .i64 (n : Int)) ∧
  ∃ i : Nat, i ≤ n ∧ f.tmps[26]? = some (.int .i64 (i : Int)) ∧ f.tmps[11]? = some (.int .i64 ((6 + psm m a (P.take i) : Nat) : Int)) ∧
    ∃ u, Hid (w'.heap[g10]? = some (.cells #[.bool wd, .int .i64 (o : Int), u] 25 (0, 0))) ∧ w'.ownsRow w2.heap.size 50 2 u i (pcs (bps (P.take i) m)) ∧ Kept (One g10) w2 w'

theorem owns_base {w : World} {base base' size : Nat} {e : TypeId} {v : Value} {n : Nat} {xs : List Value} (h : w.ownsRow base e size v n xs) (hb : base' ≤ base) : w.ownsRow base' e size v n xs := by
  refine ⟨h.1, ?_⟩
  rcases h.2 with h2 | ⟨g, cap, cur, e1, e2, e3⟩
  · exact .inl h2
  · exact .inr ⟨g, cap, cur, e1, Nat.le_trans hb e2, e3⟩

/-- What a plan of sums is. -/
def PlanPost (P : List (List Int)) (o : Nat) (wd : Bool) (w : World) (e : Ending) (w' : World) : Prop :=
  ∃ u, e = .returned (.tuple #[.agg #[.bool wd, .int .i64 (o : Int), u], .int .i64 ((6 + psm (wM wd) (wA wd) P : Nat) : Int)]) ∧ w'.ownsRow w.heap.size 50 2 u P.length (pcs (bps P (wM wd))) ∧ Kept Nix w w'

set_option maxRecDepth 10000 in
set_option maxHeartbeats 4000000 in
theorem plan_any (v1 v2 v3 : Value) (P : List (List Int)) (K g o : Nat) (wd : Bool) (w : World) (hS : Sums w v1 v2 v3 P K) (hT : Stp P K g) (hF : Fine P) (hm : wM wd ≤ g) (hg : g ≤ 30) :
    Calls Try.prog 57 #[.agg #[v1, v2, v3], .int .i64 (o : Int), .bool wd] w (PlanPost P o wd w) := by
  have hb := heap_alloc_new w (.cells #[v1, v2, v3] 79)
  have k1 : Kept Nix w (w.alloc (.cells #[v1, v2, v3] 79)) := (Kept.refl _ w).alloc _
  have HB := Lib.hid (fun w' (h : Kept Nix (w.alloc (.cells #[v1, v2, v3] 79)) w') => cells_three (h.heap hb id))
  have K1 := Lib.hid k1
  have SB := Lib.hid (fun (i : Nat) (hi : i < P.length) w' (h : Kept Nix w w') => sbest_any v1 v2 v3 P K g i (wM wd) w' (hS.nix h) hT hF hm hg hi)
  have BN := Lib.hid (fun (i : Nat) (hi : i < P.length) => (best_near (hF.get hi).1 (wM wd)).2.2.1)
  have PF := Lib.hid (fun i => psm_fits hF.nr (wM wd) (wA wd) i (wA_le wd) hF.len hF.all)
  have HLN := Lib.hid hF.len
  obtain ⟨a1, c1, rfl, -⟩ := hS.many.ints
  obtain ⟨a2, c2, rfl, -⟩ := hS.widths.ints
  obtain ⟨a3, c3, rfl, -⟩ := hS.bits.open
  simp only [rws_length, ni_length, List.length_map] at *
  clear hb k1 hS hT hF hm hg
  generalize hn : P.length = n at *
  have HNP := Lib.hid hn
  have KS := Lib.hid (ks_any wd)
  clear hn
  go_enter Try.func57, Try.ntmps57
  go_upto_region 1 with fail
  have KA := Lib.hid ((Kept.refl Nix (w.alloc (.cells #[.slice a1 n c1, .slice a2 n c2, .slice a3 K c3] 79))).alloc (.cells #[.bool false, .int .i64 0, .slice none 0 0] 25))
  have H6 := Lib.hid (heap_alloc_new (w.alloc (.cells #[.slice a1 n c1, .slice a2 n c2, .slice a3 K c3] 79)) (.cells #[.bool false, .int .i64 0, .slice none 0 0] 25))
  have hsz : (w.alloc (.cells #[.slice a1 n c1, .slice a2 n c2, .slice a3 K c3] 79)).heap.size = w.heap.size + 1 := by simp
  rw [hsz] at H6
  generalize (w.alloc (.cells #[.slice a1 n c1, .slice a2 n c2, .slice a3 K c3] 79)).alloc (.cells #[.bool false, .int .i64 0, .slice none 0 0] 25) = w1 at *
  generalize w.alloc (.cells #[.slice a1 n c1, .slice a2 n c2, .slice a3 K c3] 79) = w0 at *
  obtain ⟨g6, hg6⟩ : ∃ g6, w.heap.size + 1 = g6 := ⟨_, rfl⟩
  rw [hg6] at H6 ⊢
  go_upto_region 2 with (go_at_call 29; refine (KS.out _).mono ?_; rintro e w1' ⟨rfl, rfl⟩; clear KS)
  go_upto_region 3 with fail
  have H10 := Lib.hid (heap_alloc_new w1' (.cells #[.bool wd, .int .i64 (o : Int), .slice none 0 0] 25))
  have KB := Lib.hid ((Kept.refl Nix w1').alloc (.cells #[.bool wd, .int .i64 (o : Int), .slice none 0 0] 25))
  have hs2 : (w1'.alloc (.cells #[.bool wd, .int .i64 (o : Int), .slice none 0 0] 25)).heap.size = w1'.heap.size + 1 := by simp
  have HS2 := Lib.hid hs2
  clear hs2
  generalize w1'.alloc (.cells #[.bool wd, .int .i64 (o : Int), .slice none 0 0] 25) = w2 at *
  obtain ⟨g10, hg10⟩ : ∃ g10, w1'.heap.size = g10 := ⟨_, rfl⟩
  rw [hg10] at H10 HS2 ⊢
  have HG := Lib.hid (show g6 < g10 ∧ w.heap.size + 1 = g6 ∧ w1'.heap.size = g10 by
    have h1 := (Array.getElem?_eq_some_iff.1 H6.out).1
    omega)
  obtain ⟨x0, x1, x2⟩ := HB.out w2 (nix_trans KA.out KB.out)
  clear hg10 hg6 hsz
  have HM := Lib.hid (wM_le wd)
  have HA := Lib.hid (wA_le wd)
  generalize hmm : wM wd = m at *
  generalize haa : wA wd = a at *
  have HMD := Lib.hid (And.intro hmm haa)
  clear hmm haa
  go_wp2
  clear x0 x1 x2
  refine wp_loop (PlanInv w.heap.size g6 g10 n m a o wd P w2) (fun f _ => n - (intOf (f.tmps.getD 26 undef)).toNat) ?_ ?_
  · exact ⟨rfl, rfl, rfl, rfl, rfl, rfl, rfl, rfl, 0, Nat.zero_le _, rfl, rfl, _, Lib.hid H10.out, World.ownsRow_nil _ _ _ _, Kept.refl _ _⟩
  · clear H10
    rintro ⟨tm, df⟩ w3 ⟨rfl, hs, e3, e6, e8, e9, e10, e25, i, hi, e26, e11, u, h10, ho, hk⟩
    simp only at hs e3 e6 e8 e9 e10 e25 e26 e11
    obtain ⟨f, hf, hg⟩ := fr_open hs
    have g3' := hg _ _ e3
    have g6' := hg _ _ e6
    have g8' := hg _ _ e8
    have g9' := hg _ _ e9
    have g10' := hg _ _ e10
    have g25' := hg _ _ e25
    have g26' := hg _ _ e26
    have g11' := hg _ _ e11
    simp only [List.range, List.range.loop, List.map] at hf
    rw [g3', g6', g8', g9', g10', g25', g26', g11'] at hf
    clear g3' g6' g8' g9' g10' g25' g26' g11' hg hs e3 e6 e8 e9 e10 e25 e26 e11
    subst hf
    have H10 := Lib.hid h10.out
    have HO := Lib.hid ho
    have HK := Lib.hid hk
    have KN : Kept Nix w1' w3 := KB.out.trans hk (fun _ h => h) (fun j hj h => by have h : j = g10 := h; have := HG.out.2.2; omega)
    have KX := Lib.hid (nix_trans KA.out KN)
    clear h10 ho hk KN
    by_cases hlt : i < n
    · have hdd : decide (i < n) = true := decide_eq_true hlt
      obtain ⟨x0, x1, x2⟩ := HB.out w3 KX.out
      have SI := Lib.hid (SB.out i hlt w3 (nix_trans K1.out KX.out))
      rw [BN.out i hlt] at SI
      have HPS := Lib.hid (psm_step P m a i (by rw [HNP.out]; exact hlt))
      have HBS := Lib.hid (bps_step P m i (by rw [HNP.out]; exact hlt))
      have hpf := PF.out (i + 1)
      rw [HPS.out] at hpf
      have HI := Lib.hid hlt
      have HW := Lib.hid (show wrap64 ((i : Int) + 1) = ((i + 1 : Nat) : Int) by have := HLN.out; rw [w64_in _ (by omega)]; omega)
      obtain ⟨Q, hQ⟩ : ∃ Q, P.getD i [] = Q := ⟨_, rfl⟩
      rw [hQ] at SI HPS HBS hpf
      have e3' : wrap64 ((a : Int) + (cbN Q m : Int)) = (a : Int) + (cbN Q m : Int) := w64_in _ (by omega)
      have e4' : wrap64 (6 + (psm m a (P.take i) : Int) + ((a : Int) + (cbN Q m : Int))) = ((6 + psm m a (P.take (i + 1)) : Nat) : Int) := by rw [HPS.out, w64_in _ (by omega)]; omega
      have E3 := Lib.hid (And.intro e3' e4')
      have E5 := Lib.hid (show i + 1 ≤ maxLen ∧ (i + 1) * 16 ≤ 140737488355328 by have := HLN.out; simp only [maxLen]; omega)
      clear hQ hpf e3' e4' hlt hi SB
      generalize psm m a (P.take i) = z0 at *
      generalize hz1 : psm m a (P.take (i + 1)) = z1 at *
      have HZ1 := Lib.hid hz1
      clear hz1
      generalize cbN Q m = cn at *
      generalize bestK Q m = bk' at *
      generalize bestR Q m = br' at *
      go_upto_region 8 with (go_at_call 68; refine SI.out.mono ?_; rintro e w4 ⟨rfl, k4⟩; have K4 := Lib.hid k4; clear k4 SI)
      have PC := Lib.hid (part_cells w4 bk' br' 50)
      have K5 := Lib.hid (nix_trans K4.out ((Kept.refl Nix w4).alloc (.cells #[.int .i64 bk', .bool br'] 50)))
      generalize w4.alloc (.cells #[.int .i64 bk', .bool br'] 50) = w5 at *
      generalize w4.heap.size = g13 at *
      obtain ⟨p1, p2, p3⟩ := PC.out w5 (Kept.refl _ _)
      have hh5 := K5.out.heap H10.out id
      have y2 : w5.cell? ⟨g10, 2, none⟩ = some u := (cell_of hh5).trans rfl
      have O5 := Lib.hid ((K5.out.owns HO.out (fun _ _ h => h)).alloc (.cells #[.int .i64 bk', .bool br'] 50))
      have K6 := Lib.hid (K5.out.alloc (.cells #[.int .i64 bk', .bool br'] 50))
      have HBSZ := Lib.hid (show w2.heap.size ≤ (w5.alloc (.cells #[.int .i64 bk', .bool br'] 50)).heap.size from Nat.le_trans HK.out.size K6.out.size)
      have KW6 := Lib.hid (HK.out.trans K6.out (fun _ h => h) (fun _ _ h => absurd h id))
      have H10B := Lib.hid (K6.out.heap H10.out id)
      have HLT6 := Lib.hid (Array.getElem?_eq_some_iff.1 H10B.out).1
      have HUN := Lib.hid (show u.ownBlock ≠ some g10 from fun h => by have := (own_lt HO.out h).1; have := HS2.out; omega)
      have HUL := Lib.hid (fun kk (h : u.ownBlock = some kk) => (own_lt HO.out h).1)
      clear p3 hh5 hdd x0 x1 x2 PC
      go_wp2_with (
        refine wpList_app _ rfl _ _ 23 rfl w2.heap.size 50 (.agg #[.int .i64 0, .bool false]) 2 16 Try.underlying23 info_part rfl (by decide) _ _ _ rfl O5.out _ 1 1 [.int .i64 bk', .bool br'] rfl (src_part w5 _ _ _ rfl rfl) E5.out.1 E5.out.2 HBSZ.out ?_
        intro v6 w6 o6 g6x n6
        have k6 : Kept (One g10) w2 w6 := KW6.out.grown g6x (fun kk hkk => .inr (HUL.out kk hkk))
        have h6 := (g6x.block g10 HLT6.out (fun e => HUN.out e.symm)).trans H10B.out
        have z2 := frozen_of (i := 2) h6
        have c2' := (cell_of (i := 2) h6).trans rfl
        obtain ⟨vo, vc, rfl, -⟩ := owns_shape o6
        have KK6 := Lib.hid k6; have O6 := Lib.hid o6; have HH6 := Lib.hid h6; clear k6 o6 g6x n6 h6)
      rw [E3.out.1, E3.out.2, HW.out]
      refine ⟨⟨rfl, rfl, rfl, rfl, rfl, rfl, rfl, rfl, i + 1, HI.out, rfl, by rw [HZ1.out]; rfl, .slice vo (i + 1) vc, Lib.hid (heap_set HH6.out), ?_, KK6.out.setCell (p := ⟨g10, 2, none⟩) (.inl rfl) _⟩, nearer HI.out rfl⟩
      rw [HBS.out, pcs_append]
      refine ((Kept.refl (One g10) w6).setCell (p := ⟨g10, 2, none⟩) (.inl rfl) _).owns O6.out (fun kk hkk he => ?_)
      have := (own_lt O6.out hkk).1
      have := HS2.out
      have h : kk = g10 := he
      omega
    · have hie : i = n := by omega
      subst hie
      have hdd : decide (i < i) = false := decide_eq_false hlt
      rw [show P.take i = P by rw [← HNP.out, List.take_length]] at HO ⊢
      obtain ⟨uo, uc, rfl, -⟩ := owns_shape HO.out
      have H6' := Lib.hid (HK.out.heap (KB.out.heap H6.out id) (fun h => by have h : g6 = g10 := h; have := HG.out; omega))
      have HNE := Lib.hid (show g10 ≠ g6 by have := HG.out; omega)
      have KR := Lib.hid (nix_trans K1.out KX.out)
      have HGW := Lib.hid (show w.heap.size ≤ g6 ∧ w.heap.size ≤ w2.heap.size by
        have h1 := K1.out.size
        have h2 := KB.out.size
        have h3 := KA.out.size
        have h4 := HG.out
        omega)
      clear hlt hi
      have HMD1 := Lib.hid HMD.out.1
      have HZ := Lib.hid (show psm (wM wd) (wA wd) P = psm m a P by rw [HMD.out.1, HMD.out.2])
      generalize psm m a P = z at *
      go_wp2_with (first
        | (refine wpList_load_row rfl 25 _ rfl g10 rfl 25 _ (0, 0) _ H10.out Try.underlying25 rfl size_plan ?_)
        | (refine wpList_store_row rfl 25 _ _ rfl _ _ rfl rfl 25 _ H6'.out size_plan rfl (one_plan _ _ _ _ _) ?_))
      refine bodyPost_ret (results_plan1 rfl _ _ g6 _ ((6 + z : Nat) : Int) rfl (heap_row _ H6'.out) rfl rfl) rfl ⟨.slice uo i uc, by rw [HZ.out], ?_, KR.out.setRow (.inr HGW.out.1) _⟩
      rw [HMD1.out, HNP.out]
      exact owns_base (((Kept.refl (One g6) w3).setRow (.inl rfl) _).owns HO.out (fun kk hkk he => by have := (own_lt HO.out hkk).1; have := HS2.out; have := HG.out; have h : kk = g6 := he; omega)) HGW.out.2

end Go.Proofs.Ytlbnjclchmnomaa
