/- Package parts: sums put together two by two. -/
import Derived.Test.YtlbnjclchmnomaaPk18

namespace Go.Proofs.Ytlbnjclchmnomaa
open Go.RowKit Bx

theorem map_le (P : List (List Int)) (f : List Int → Nat) (B : Nat) (h : ∀ Q ∈ P, f Q ≤ B) (i : Nat) : (P.map f).getD i 0 ≤ B := by
  by_cases hi : i < P.length
  · rw [map_get P f i hi]
    exact h _ (get_mem hi)
  · simp [List.getD, List.getElem?_eq_none (Nat.le_of_not_lt hi)]

theorem Fine.mem {P : List (List Int)} (h : Fine P) {Q : List Int} (hQ : Q ∈ P) : nrs Q = true ∧ Q.length ≤ 1048576 := by
  obtain ⟨i, hi, rfl⟩ := List.getElem_of_mem hQ
  have := h.get hi
  rwa [show P.getD i [] = P[i] by simp [List.getD, hi]] at this

theorem prs_length : ∀ P : List (List Int), (prs P).length = P.length / 2
  | [] => by simp [prs]
  | [_] => by simp [prs]
  | a :: b :: R => by simp only [prs, List.length_cons, prs_length R]; omega

theorem prs_tl : ∀ P : List (List Int), tl (prs P) ≤ tl P
  | [] => Nat.le_refl _
  | [_] => by simp [prs, tl]
  | a :: b :: R => by
    have := prs_tl R
    simp only [prs, tl_cons, List.length_append]
    omega

theorem Fine.pair {P : List (List Int)} (h : Fine P) : Fine (prs P) :=
  ⟨prs_nrs P h.nr, by rw [prs_length]; have := h.len; omega, Nat.le_trans (prs_tl P) h.all⟩

theorem keep_int3 {base : Nat} {w2 w6 : World} {v x : Value} {n k : Nat} {us xs : List Value} (hv : w2.ownsRow base 22 1 v n us) (hg : w2.grownBy w6 v.ownBlock) (hx : w2.ownsRow base 3 1 x k xs) : w6.ownsRow base 3 1 x k xs := by
  have hk : Kept (fun k => v.ownBlock = some k) w2 w6 := ⟨hg.os, hg.tape, hg.output, hg.size, fun k hk hn => hg.block k hk (fun e => hn e.symm)⟩
  refine hk.owns hx (fun k hb hs => ?_)
  obtain ⟨c1, g1⟩ := owns_type hx hb
  obtain ⟨c2, g2⟩ := owns_type hv hs
  rw [g1] at g2
  simp at g2

theorem keep_set3 {base p k : Nat} {w6 : World} {x u : Value} {xs : List Value} {cs : Array Value} (h9 : w6.heap[p]? = some (.cells cs 79 (0, 0))) (hx : w6.ownsRow base 3 1 x k xs) (j : Nat) : (w6.setCell ⟨p, j, none⟩ u).ownsRow base 3 1 x k xs := by
  refine ((Kept.refl (One p) w6).setCell (p := ⟨p, j, none⟩) (.inl rfl) u).owns hx (fun k hb hs => ?_)
  have hs : k = p := hs
  subst hs
  obtain ⟨c1, g1⟩ := owns_type hx hb
  rw [h9] at g1
  simp at g1

/-- A row more, and the sums that hold them. -/
theorem rack_step3 {base : Nat} {w1 w2 w6 : World} {x y v v6 u : Value} {p9 : Nat} {us : List Value} {L : List (List Int)} {zs : List Int} (h9 : w1.heap[p9]? = some (.cells #[x, y, v] 79 (0, 0)))
    (hgd : Rack base w1 v us L) (k2 : Kept Nix w1 w2) (hu : w2.ownsRow base 3 1 u zs.length (ivs zs))
    (o6 : w6.ownsRow base 22 1 v6 (us.length + 1) (us ++ [u])) (g6 : w2.grownBy w6 v.ownBlock) :
    w6.heap[p9]? = some (.cells #[x, y, v] 79 (0, 0)) ∧ (w6.setCell ⟨p9, 2, none⟩ v6).heap[p9]? = some (.cells #[x, y, v6] 79 (0, 0)) ∧ Rack base (w6.setCell ⟨p9, 2, none⟩ v6) v6 (us ++ [u]) (L ++ [zs]) ∧
    ∀ (q : Value) (k : Nat) (xs : List Value), w1.ownsRow base 3 1 q k xs → (w6.setCell ⟨p9, 2, none⟩ v6).ownsRow base 3 1 q k xs := by
  have hk2 := k2.heap h9 id
  have q9 : w6.heap[p9]? = some (.cells #[x, y, v] 79 (0, 0)) := by
    refine (g6.block p9 (Array.getElem?_eq_some_iff.1 hk2).1 (fun e => ?_)).trans hk2
    obtain ⟨cur', hg'⟩ := owns_type (hgd.kept k2).1 e.symm
    rw [hk2] at hg'
    simp at hg'
  have hpush := hgd.push k2 hu o6 g6
  refine ⟨q9, (heap_set q9).trans (by simp), ?_, fun q k xs hq => keep_set3 q9 (keep_int3 (hgd.kept k2).1 g6 (k2.owns hq (fun _ _ h => h))) 2⟩
  refine hpush.other (Kept.setCell (S := One p9) (Kept.refl _ _) (p := ⟨p9, 2, none⟩) (.inl rfl) _) (fun k cur t hk' hh => ?_)
  have hk'' : k = p9 := hk'
  subst hk''
  rw [q9] at hh
  cases hh
  exact ⟨by decide, by decide⟩

theorem one_three (a b c : Option Addr) (i j k l m n : Nat) : (#[.slice a i j, .slice b k l, .slice c m n] : Array Value).all (·.oneCell') = true := by simp [Value.oneCell']

/-- Sums of the call's own. -/
structure SumsO (base : Nat) (w : World) (v1 v2 v3 : Value) (P : List (List Int)) (K : Nat) : Prop where
  many : w.ownsRow base 3 1 v1 P.length (ivs (ni (P.map List.length)))
  widths : w.ownsRow base 3 1 v2 P.length (ivs (ni (P.map cw)))
  bits : ∃ us, Rack base w v3 us ((rws P K).map ni)

theorem SumsO.sums {base : Nat} {w : World} {v1 v2 v3 : Value} {P : List (List Int)} {K : Nat} (h : SumsO base w v1 v2 v3 P K) : Sums w v1 v2 v3 P K :=
  ⟨sl_of_owns h.many, sl_of_owns h.widths, by obtain ⟨us, hr⟩ := h.bits; exact hr.chs⟩

theorem SumsO.other {base : Nat} {w w' : World} {v1 v2 v3 : Value} {P : List (List Int)} {K : Nat} (h : SumsO base w v1 v2 v3 P K) {S : Nat → Prop} (hk : Kept S w w') (hS : ∀ k cur t, S k → w.heap[k]? = some (.cells cur t (0, 0)) → t ≠ 22 ∧ t ≠ 3) : SumsO base w' v1 v2 v3 P K := by
  refine ⟨hk.owns h.many (fun k hb hs => ?_), hk.owns h.widths (fun k hb hs => ?_), ?_⟩
  · obtain ⟨cur, hg⟩ := owns_type h.many hb
    exact (hS k _ _ hs hg).2 rfl
  · obtain ⟨cur, hg⟩ := owns_type h.widths hb
    exact (hS k _ _ hs hg).2 rfl
  · obtain ⟨us, hr⟩ := h.bits
    exact ⟨us, hr.other hk hS⟩

theorem Rack.weak {base base' : Nat} {w : World} {v : Value} {us : List Value} {L : List (List Int)} (h : Rack base w v us L) (hb : base' ≤ base) : Rack base' w v us L := by
  obtain ⟨h1, h2, h3⟩ := h
  refine ⟨?_, h2, fun i hi => by obtain ⟨u, hu, ho⟩ := h3 i hi; exact ⟨u, hu, owns_weak ho hb⟩⟩
  refine ⟨h1.1, ?_⟩
  rcases h1.2 with h2 | ⟨g, cap, cur, e1, e2, e3⟩
  · exact .inl h2
  · exact .inr ⟨g, cap, cur, e1, Nat.le_trans hb e2, e3⟩

def PairInv (g1 g2 g3 K n : Nat) (v3 : Value) (u1 u2 : Value) (P : List (List Int)) (w1 : World) (f : Act) (w' : World) : Prop :=
  f.defers = [] ∧ f.tmps.size = 30 ∧ f.tmps[1]? = some (.pointer (some ⟨g1, 0, none⟩)) ∧ f.tmps[2]? = some (.pointer (some ⟨g2, 0, none⟩)) ∧ f.tmps[3]? = some (.pointer (some ⟨g3, 0, none⟩)) ∧ f.tmps[15]? = some v3 ∧ f.tmps[16]? = some (.int .i64 (K : Int)) ∧
  ∃ k : Nat, k ≤ K ∧ f.tmps[17]? = some (.int .i64 (k : Int)) ∧ ∃ v us, Hid (w'.heap[g3]? = some (.cells #[u1, u2, v] 79 (0, 0))) ∧ Rack w1.heap.size w' v us ((rws (prs P) k).map ni) ∧
    w'.ownsRow w1.heap.size 3 1 u1 n (ivs (ni ((prs P).map List.length))) ∧ w'.ownsRow w1.heap.size 3 1 u2 n (ivs (ni ((prs P).map cw))) ∧ Kept Nix w1 w'

set_option maxRecDepth 10000 in
set_option maxHeartbeats 4000000 in
theorem paired_any (v1 v2 v3 : Value) (P : List (List Int)) (K g : Nat) (w : World) (hS : Sums w v1 v2 v3 P K) (hT : Stp P K g) (hF : Fine P) (hg : g ≤ 30) :
    Calls Try.prog 58 #[.agg #[v1, v2, v3]] w fun e w' => ∃ u1 u2 u3, e = .returned (.agg #[u1, u2, u3]) ∧ SumsO w.heap.size w' u1 u2 u3 (prs P) K ∧ Kept Nix w w' := by
  have hb := heap_alloc_new w (.cells #[v1, v2, v3] 79)
  have k1 : Kept Nix w (w.alloc (.cells #[v1, v2, v3] 79)) := (Kept.refl _ w).alloc _
  have HB := Lib.hid (fun w' (h : Kept Nix (w.alloc (.cells #[v1, v2, v3] 79)) w') => cells_three (h.heap hb id))
  have K1 := Lib.hid k1
  have S1 := Lib.hid (hS.nix k1)
  have PP := Lib.hid (fun w' (h : Kept Nix w w') => pairs_plus v1 (P.map List.length) w' (hS.many.nix h) (by rw [List.length_map]; exact hF.len) (fun i => Nat.le_trans (map_le P _ 1048576 (fun Q hQ => (hF.mem hQ).2) i) (by omega)))
  have PW := Lib.hid (fun w' (h : Kept Nix w w') => pairs_wider v2 (P.map cw) w' (hS.widths.nix h) (by rw [List.length_map]; exact hF.len) (fun i => Nat.le_trans (map_le P _ 34 (fun Q hQ => cw_near (hF.mem hQ).1) i) (by omega)))
  have PR := Lib.hid (fun (k : Nat) (hk : k < K) v' w' (h : Sl w' v' (ivs (ni (P.map (fun Q => sN Q k))))) => pairs_plus v' (P.map (fun Q => sN Q k)) w' h (by rw [List.length_map]; exact hF.len) (fun i => Nat.le_trans (map_le P _ 18014430000000000 (fun Q hQ => sN_big (hF.mem hQ).1 (hF.mem hQ).2 k (by have := hT.hi; omega)) i) (by omega)))
  simp only [← prs_map List.length (· + ·) (fun a b => List.length_append)] at PP
  simp only [← prs_map cw max cw_append] at PW
  have PR := Lib.hid (fun (k : Nat) (hk : k < K) v' w' (h : Sl w' v' (ivs (ni (P.map (fun Q => sN Q k))))) => (by
    have h1 := PR.out k hk v' w' h
    rw [← prs_map (fun Q => sN Q k) (· + ·) (fun a b => sN_append a b k)] at h1
    exact h1 : Calls Try.prog 69 #[v', .func (.func 70) #[] #[]] w' fun e w'' => ∃ u, e = .returned u ∧ w''.ownsRow w'.heap.size 3 1 u ((prs P).map (fun Q => sN Q k)).length (ivs (ni ((prs P).map (fun Q => sN Q k)))) ∧ Kept Nix w' w''))
  simp only [List.length_map] at PP PW PR
  obtain ⟨n, hn⟩ : ∃ n, (prs P).length = n := ⟨_, rfl⟩
  have HNP := Lib.hid (And.intro hn hF.pair.len)
  rw [hn] at PP PW PR
  have HKK := Lib.hid (show K ≤ 31 by have := hT.hi; omega)
  obtain ⟨a1, c1, rfl, -⟩ := hS.many.ints
  obtain ⟨a2, c2, rfl, -⟩ := hS.widths.ints
  obtain ⟨a3, c3, rfl, -⟩ := hS.bits.open
  have R0 := Lib.hid (fun j (hj : j < K) => by
    have h := S1.out.bits.row j (by rw [wp_rows_len]; exact hj)
    rw [rows_get P K j hj, ni_length, List.length_map] at h
    exact h)
  simp only [rws_length, ni_length, List.length_map] at *
  clear hb k1 hS hT hF hg hn
  generalize P.length = np at *
  go_enter Try.func58, Try.ntmps58
  go_upto_region 1 with fail
  have KA := Lib.hid ((Kept.refl Nix (w.alloc (.cells #[.slice a1 np c1, .slice a2 np c2, .slice a3 K c3] 79))).alloc (.cells #[.slice none 0 0, .slice none 0 0, .slice none 0 0] 79))
  have H2 := Lib.hid (heap_alloc_new (w.alloc (.cells #[.slice a1 np c1, .slice a2 np c2, .slice a3 K c3] 79)) (.cells #[.slice none 0 0, .slice none 0 0, .slice none 0 0] 79))
  have hsz : (w.alloc (.cells #[.slice a1 np c1, .slice a2 np c2, .slice a3 K c3] 79)).heap.size = w.heap.size + 1 := by simp
  rw [hsz] at H2
  generalize (w.alloc (.cells #[.slice a1 np c1, .slice a2 np c2, .slice a3 K c3] 79)).alloc (.cells #[.slice none 0 0, .slice none 0 0, .slice none 0 0] 79) = w1 at *
  generalize w.alloc (.cells #[.slice a1 np c1, .slice a2 np c2, .slice a3 K c3] 79) = w0 at *
  obtain ⟨g2, hg2⟩ : ∃ g2, w.heap.size + 1 = g2 := ⟨_, rfl⟩
  rw [hg2] at H2 ⊢
  have HG2 := Lib.hid hg2
  clear hg2 hsz
  obtain ⟨x0, x1, x2⟩ := HB.out w1 KA.out
  have P1 := Lib.hid (PP.out w1 (nix_trans K1.out KA.out))
  go_upto_region 2 with (go_at_call 69; refine P1.out.mono ?_; rintro e w2 ⟨u1, rfl, o1, k2⟩; have K2 := Lib.hid k2; have O1 := Lib.hid o1; obtain ⟨ua, uc, rfl, -⟩ := owns_shape o1; clear o1 k2 P1)
  have H3 := Lib.hid (heap_alloc_new w2 (.cells #[.slice ua n uc, .slice none 0 0, .slice none 0 0] 79))
  have K3 := Lib.hid (nix_trans K2.out ((Kept.refl Nix w2).alloc (.cells #[.slice ua n uc, .slice none 0 0, .slice none 0 0] 79)))
  have O1 := Lib.hid (O1.out.alloc (.cells #[.slice ua n uc, .slice none 0 0, .slice none 0 0] 79))
  have HG3 := Lib.hid K2.out.size
  generalize w2.alloc (.cells #[.slice ua n uc, .slice none 0 0, .slice none 0 0] 79) = w3 at *
  generalize w2.heap.size = g3 at *
  clear x0 x1 x2
  obtain ⟨x0, x1, x2⟩ := HB.out w3 (nix_trans KA.out K3.out)
  have P2 := Lib.hid (PW.out w3 (nix_trans K1.out (nix_trans KA.out K3.out)))
  go_upto_region 3 with (go_at_call 69; refine P2.out.mono ?_; rintro e w4 ⟨u2, rfl, o2, k4⟩; have K4 := Lib.hid k4; have O2 := Lib.hid o2; obtain ⟨ub, ud, rfl, -⟩ := owns_shape o2; have h4 := k4.heap H3.out id; have y1 := (cell_of (i := 1) h4).trans rfl; have z1 := frozen_of (i := 1) h4; have H4 := Lib.hid h4; clear o2 k4 h4 P2)
  have H5 := Lib.hid ((heap_set (i := 1) (u := .slice ub n ud) H4.out).trans rfl)
  have OA := Lib.hid (keep_set3 (p := g3) (u := .slice ub n ud) H4.out (K4.out.owns O1.out (fun _ _ h => h)) 1)
  have OB := Lib.hid (keep_set3 (p := g3) (u := .slice ub n ud) H4.out (owns_weak O2.out K3.out.size) 1)
  have K5 := Lib.hid ((nix_trans K3.out K4.out).setCell (p := ⟨g3, 1, none⟩) (.inr HG3.out) (.slice ub n ud))
  clear x0 x1 x2 y1 z1 H4 H3 O1 O2 K4 K3 PP PW
  generalize w4.setCell ⟨g3, 1, none⟩ (.slice ub n ud) = w5 at *
  obtain ⟨x0, x1, x2⟩ := HB.out w5 (nix_trans KA.out K5.out)
  go_wp2
  clear x0 x1 x2
  refine wp_loop (PairInv w.heap.size g2 g3 K n (.slice a3 K c3) (.slice ua n uc) (.slice ub n ud) P w1) (fun f _ => K - (intOf (f.tmps.getD 17 undef)).toNat) ?_ ?_
  · exact ⟨rfl, rfl, rfl, rfl, rfl, rfl, rfl, 0, Nat.zero_le _, rfl, _, [], Lib.hid H5.out, rack_nil _ _, OA.out, OB.out, K5.out⟩
  · clear H5 OA OB K5
    rintro ⟨tm, df⟩ w6 ⟨rfl, hs, e1, e2, e3, e15, e16, k, hk, e17, v, us, h3, hrk, oa, ob, k6⟩
    simp only at hs e1 e2 e3 e15 e16 e17
    obtain ⟨f, hf, hg⟩ := fr_open hs
    have g1' := hg _ _ e1
    have g2' := hg _ _ e2
    have g3' := hg _ _ e3
    have g15' := hg _ _ e15
    have g16' := hg _ _ e16
    have g17' := hg _ _ e17
    simp only [List.range, List.range.loop, List.map] at hf
    rw [g1', g2', g3', g15', g16', g17'] at hf
    clear g1' g2' g3' g15' g16' g17' hg hs e1 e2 e3 e15 e16 e17
    subst hf
    have H3 := Lib.hid h3.out
    have RK := Lib.hid hrk
    have OA := Lib.hid oa
    have OB := Lib.hid ob
    have K6 := Lib.hid k6
    clear h3 hrk oa ob k6
    by_cases hlt : k < K
    · have hdd : decide (k < K) = true := decide_eq_true hlt
      have hk1 : (k : Int) < (K : Int) := by omega
      obtain ⟨b3, o3, rfl, ro, rc, hr⟩ := R0.out k hlt
      obtain ⟨y0, -⟩ := hr w6 (nix_trans KA.out K6.out)
      obtain ⟨-, ys⟩ := hr w6.drew (nix_trans KA.out K6.out).drew
      have PK := Lib.hid (PR.out k hlt _ w6.drew ys)
      have hst := rws_succ (prs P) k
      have HST := Lib.hid (show ((rws (prs P) (k + 1)).map ni) = (rws (prs P) k).map ni ++ [ni ((prs P).map (fun Q => sN Q k))] by rw [hst, List.map_append]; rfl)
      have HLZ := Lib.hid (show (ni ((prs P).map (fun Q => sN Q k))).length = n by rw [ni_length, List.length_map]; exact HNP.out.1)
      have HUS := Lib.hid (show us.length = k by have := RK.out.2.1; rw [List.length_map, rws_length] at this; exact this)
      have HI := Lib.hid hlt
      have HW := Lib.hid (show wrap64 ((k : Int) + 1) = ((k + 1 : Nat) : Int) by have := HKK.out; rw [w64_in _ (by omega)]; omega)
      have HB1 := Lib.hid (show us.length + 1 ≤ maxLen ∧ (us.length + 1) * 24 ≤ 140737488355328 by rw [HUS.out]; have := HKK.out; simp only [maxLen]; omega)
      have hh3 : w6.drew.heap[g3]? = _ := H3.out
      have c1 : w6.drew.cell? ⟨g3, 2, none⟩ = some v := (cell_of hh3).trans rfl
      obtain ⟨vo, vc, hvv, -⟩ := owns_shape RK.out.1
      subst hvv
      have MK := Lib.hid (fun (wx : World) (ux : Value) (kx : Kept Nix w6.drew wx) => And.intro ((cell_of (i := 2) (kx.heap hh3 id)).trans rfl) ((cell_of (i := 2) ((kx.alloc (.cells #[ux] 22)).heap hh3 id)).trans rfl))
      clear hr ys hlt hk hst hh3
      generalize ni ((prs P).map (fun Q => sN Q k)) = Z at *
      go_upto_region 6 with fail
      go_region_law
        (first
          | (refine step_app (wx.alloc (.cells #[.slice xo n xc] 22)) rfl (.tmp 22) (.tmp 25) 53 rfl w1.heap.size 22 (.slice none 0 0) 1 24 Try.underlying53 info_ints rfl (by decide) (.slice vo us.length vc) us.length us rfl OWN.out (some ⟨wx.heap.size, 0, none⟩) 1 1 [.slice xo n xc] rfl (src_one wx _ _ rfl) HB1.out.1 HB1.out.2 HSZ.out ?_
             intro v7 w7 o7 g7 n7
             obtain ⟨v7o, v7c, rfl, -⟩ := owns_shape o7
             obtain ⟨s1, s2, s3, s4⟩ := rack_step3 H3.out RK.out KXA.out (by rw [HLZ.out]; exact OXA.out) o7 g7
             have z7 := frozen_of (i := 2) s1
             have y7 := (cell_of (i := 2) s1).trans rfl
             have KF := Lib.hid ((nix_trans K6.out KXA.out).grown g7 (fun kk hkk => .inr (RK.out.1.lt kk hkk).1))
             have S2 := Lib.hid s2; have S3 := Lib.hid s3; have S4 := Lib.hid s4; clear s1 s2 s3 s4 o7 g7 n7)
          | (go_simp; go_at_call 69; refine PK.out.mono ?_; rintro e wx ⟨ux, rfl, ox, kx⟩; obtain ⟨xo, xc, rfl, -⟩ := owns_shape ox
             obtain ⟨q1, q2⟩ := MK.out wx (.slice xo n xc) kx
             have KXA := Lib.hid (show Kept Nix w6 (wx.alloc (.cells #[.slice xo n xc] 22)) from (nix_trans ((Kept.refl Nix w6).drew) kx).alloc _)
             have OXA := Lib.hid (owns_weak (ox.alloc (.cells #[.slice xo n xc] 22)) (show w1.heap.size ≤ w6.drew.heap.size from K6.out.size))
             have OWN := Lib.hid ((KXA.out.owns RK.out.1 (fun _ _ h => h)))
             have HSZ := Lib.hid (show w1.heap.size ≤ (wx.alloc (.cells #[.slice xo n xc] 22)).heap.size from Nat.le_trans K6.out.size KXA.out.size)
             clear ox kx))
      all_goals
        clear c1 y0 z7 y7 q1 q2
        go_wp2
        rw [HW.out]
        refine ⟨⟨rfl, rfl, rfl, rfl, rfl, rfl, rfl, k + 1, HI.out, rfl, _, _, Lib.hid S2.out, by rw [HST.out]; exact S3.out, S4.out _ _ _ OA.out, S4.out _ _ _ OB.out, KF.out.setCell (p := ⟨g3, 2, none⟩) (.inr HG3.out) _⟩, nearer HI.out rfl⟩
    · have hie : k = K := by omega
      subst hie
      have hdd : decide (k < k) = false := decide_eq_false hlt
      clear hlt hk
      have H2' := Lib.hid (K6.out.heap H2.out id)
      have HNE := Lib.hid (show g2 < w1.heap.size from (Array.getElem?_eq_some_iff.1 H2.out).1)
      have KR := Lib.hid (nix_trans K1.out (nix_trans KA.out K6.out))
      have HGW := Lib.hid (show w.heap.size ≤ g2 by have := HG2.out; omega)
      obtain ⟨vo, vc, rfl, -⟩ := owns_shape RK.out.1
      have KZ := Lib.hid (fun cs => (Kept.refl (One g2) w6).setRow (.inl rfl) cs)
      have hnot : ∀ {e : TypeId} {size : Nat} {x : Value} {m : Nat} {xs : List Value}, w6.ownsRow w1.heap.size e size x m xs → ∀ kk, x.ownBlock = some kk → ¬ One g2 kk := fun h kk hkk he => by have := (own_lt h hkk).1; have h2 : kk = g2 := he; have := HNE.out; omega
      have HW1 := Lib.hid (show w.heap.size ≤ w1.heap.size from (nix_trans K1.out KA.out).size)
      have SM := Lib.hid (fun cs => SumsO.mk (base := w.heap.size) (P := prs P) (K := k) (by rw [HNP.out.1]; exact owns_weak ((KZ.out cs).owns OA.out (hnot OA.out)) HW1.out) (by rw [HNP.out.1]; exact owns_weak ((KZ.out cs).owns OB.out (hnot OB.out)) HW1.out) (Exists.intro _ ((RK.out.other (KZ.out cs) (fun kk cur t hs hh => by
        have h2 : kk = g2 := hs
        subst h2
        rw [H2'.out] at hh
        cases hh
        exact ⟨by decide, by decide⟩)).weak HW1.out)))
      clear hnot
      go_wp2_with (first
        | (refine wpList_load_row rfl 79 _ rfl g3 rfl 79 _ (0, 0) _ H3.out Try.underlying79 rfl size_sums ?_)
        | (refine wpList_store_row rfl 79 _ _ rfl _ _ rfl rfl 79 _ H2'.out size_sums rfl (one_three _ _ _ _ _ _ _ _ _) ?_))
      refine ret_row rfl g2 79 _ (0, 0) _ rfl (heap_row _ H2'.out) Try.underlying79 rfl size_sums rfl ⟨_, _, _, rfl, SM.out _, KR.out.setRow (.inr HGW.out) _⟩

end Go.Proofs.Ytlbnjclchmnomaa
