/- The reference of layer 8: Apply. -/
import Derived.Test.YtcenfidenmppcaaWinAp
import Derived.Deep.RegionHeld3
namespace Go.Proofs.Ytcenfidenmppcaa
open Go.RowKit Bx

def RApInv (vx vw : Value) (L : List Int) (n : Nat) (w : World) (a : Act) (w' : World) : Prop :=
  a.defers = [] ∧ a.tmps.size = 33 ∧ a.tmps[0]? = some vx ∧ a.tmps[1]? = some vw ∧
  ∃ i : Nat, i ≤ n ∧ a.tmps[7]? = some (.int .i64 (i : Int)) ∧ ∃ u, a.tmps[6]? = some u ∧ w'.ownsRow w.heap.size 3 1 u i (ivs (L.take i)) ∧ Kept Nix w w'

theorem take_getD (L : List Int) (i : Nat) (h : i < L.length) : L.take (i + 1) = L.take i ++ [L.getD i 0] := by
  rw [List.take_succ_eq_append_getElem h]
  simp [List.getD, h]

theorem rap_nums (a b : Int) (n i : Nat) (hn : n < 1099511627776) (hi : i < n) (h1 : -1099511627776 ≤ a ∧ a ≤ 1099511627776) (h2 : 0 ≤ b ∧ b ≤ 32768) :
    IntKind.i64.wrap (a * b) = a * b ∧ wrap64 (a * b) = a * b ∧ i + 1 ≤ maxLen ∧ (i + 1) * 8 ≤ 140737488355328 := by
  have := prod_bd a b h1 h2
  refine ⟨IntWalk.i64_in _ (by omega), w64_in _ (by omega), by simp only [maxLen]; omega, by omega⟩

set_option maxHeartbeats 2000000 in
theorem rapply_any (vx vw : Value) (x ws : List Int) (w : World) (sx : Sl w vx (ivs x)) (sw : Sl w vw (ivs ws)) (hl : x.length = ws.length) (hx : Bd 1099511627776 x) (hw : ∀ n ∈ ws, 0 ≤ n ∧ n ≤ 32768) (hm : x.length < 1099511627776) :
    Calls Try.prog 17 #[vx, vw] w (ApPost x ws w) := by
  obtain ⟨ao, ca, rfl, -⟩ := sx.ints
  obtain ⟨bo, cb, rfl, -⟩ := sw.ints
  have HX := Lib.hid hx
  have HW := Lib.hid hw
  have SX := Lib.hid sx
  have SW := Lib.hid sw
  have HN0 := Lib.hid (World.ownsRow_nil w w.heap.size 3 1)
  have HLX := Lib.hid (show (apL x ws).length = x.length from apL_length x ws hl)
  have HP : Hid (∀ u w', w'.ownsRow w.heap.size 3 1 u x.length (ivs (apL x ws)) → Kept Nix w w' → ApPost x ws w (.returned (.tuple #[u, .int .i64 0])) w') := Lib.hid (fun u w' ho hk => ⟨u, rfl, ho, hk⟩)
  rw [← hl]
  have HL := Lib.hid hl
  have HM := Lib.hid hm
  clear sx sw hx hw hl
  generalize hn : x.length = n at *
  have HN := Lib.hid hn
  have hne : ((n : Int) != (n : Int)) = false := bne_self_eq_false _
  clear hn hm
  go_enter Try.func17, Try.ntmps17
  go_wp2
  clear hne
  refine wp_loop (RApInv (.slice ao n ca) (.slice bo n cb) (apL x ws) n w) (fun a _ => n - (intOf (a.tmps.getD 7 undef)).toNat) ?_ ?_
  · exact ⟨rfl, rfl, rfl, rfl, 0, Nat.zero_le _, rfl, _, rfl, HN0.out, Kept.refl _ _⟩
  · rintro ⟨tm, df⟩ w1 ⟨rfl, hs, h0, h1, i, hi, h7, u, h6, hou, hkp⟩
    simp only at hs h0 h1 h7 h6
    obtain ⟨f, hf, hg⟩ := fr_open hs
    have e0 := hg _ _ h0
    have e1 := hg _ _ h1
    have e7 := hg _ _ h7
    have e6 := hg _ _ h6
    simp only [List.range, List.range.loop, List.map] at hf
    rw [e0, e1, e7, e6] at hf
    clear e0 e1 e7 e6 hg hs h0 h1 h7 h6
    subst hf
    have HKP := Lib.hid hkp
    have HOU := Lib.hid hou
    clear hkp hou
    by_cases hlt : i < n
    · obtain ⟨b1, o1, rfl, hc1⟩ := cell_kept SX.out i (by rw [HN.out]; exact hlt)
      obtain ⟨b2, o2, rfl, hc2⟩ := cell_kept SW.out i (by rw [← HL.out]; exact hlt)
      have CL := Lib.hid (show ∀ w', Kept Nix w w' → w'.cell? ⟨b1, o1 + i, none⟩ = some (.int .i64 (x.getD i 0)) ∧ w'.cell? ⟨b2, o2 + i, none⟩ = some (.int .i64 (ws.getD i 0)) from fun w' hk' => ⟨hc1 w' hk', hc2 w' hk'⟩)
      have c1 := hc1 w1 HKP.out
      have c2 := hc2 w1 HKP.out
      have bx := HX.out.any (by decide) i
      have bw := HW.out (ws.getD i 0) (by rw [List.getD_eq_getElem?_getD, List.getElem?_eq_getElem (show i < ws.length by rw [← HL.out]; exact hlt)]; exact List.getElem_mem _)
      obtain ⟨n1, n2, n3, n4, -, -⟩ := ap_nums (x.getD i 0) (ws.getD i 0) n i HM.out hlt bx bw
      obtain ⟨m1, m2, m3, m4⟩ := rap_nums (x.getD i 0) (ws.getD i 0) n i HM.out hlt bx bw
      have DN : Hid (Calls Try.prog 20 #[.int .i64 (x.getD i 0 * ws.getD i 0), .int .i64 32768] w1.drew fun e w' => e = .returned (.int .i64 (x.getD i 0 * ws.getD i 0 / 32768)) ∧ Kept Nix w1.drew w') := Lib.hid ((down_any _ (prod_bd _ _ bx bw) w1.drew).mono (by rintro e w' ⟨h, rfl⟩; exact ⟨h, Kept.refl _ _⟩))
      have N1 := Lib.hid n1
      have N6 := Lib.hid m3
      have N7 := Lib.hid m4
      have HI := Lib.hid hlt
      have HT := Lib.hid ((take_getD (apL x ws) i (by rw [HLX.out]; exact hlt)).trans (by rw [apL_get x ws i (by rw [HN.out]; exact hlt) (by rw [← HL.out]; exact hlt)]))
      clear n1 m3 m4 hlt hi hc1 hc2 bx bw
      generalize x.getD i 0 = xi at *
      generalize ws.getD i 0 = yi at *
      generalize xi * yi / 32768 = q at *
      go_wp2_with fail
      go_region_held3 (fun w' => w'.cell? ⟨b1, o1 + i, none⟩ = some (.int .i64 xi) ∧ w'.cell? ⟨b2, o2 + i, none⟩ = some (.int .i64 yi))
        (first | go_keep | (exact HQ5.out) | (exact HQ6.out))
        (first
          | (go_at_call 20; refine DN.out.mono ?_; rintro e w5 ⟨rfl, k5⟩; have hk5 : Kept Nix w w5 := nix_trans HKP.out.drew k5; have HQ5 := Lib.hid (CL.out _ hk5); have K5 := Lib.hid hk5; have O5 := Lib.hid ((k5.owns (w := w1.drew) HOU.out (fun _ _ h => h)).alloc (.cells #[.int .i64 q] 3)); clear k5 hk5)
          | (refine step_app (w5.alloc (.cells #[.int .i64 q] 3)) rfl (.tmp 19) (.tmp 30) 26 rfl w.heap.size 3 (.int .i64 0) 1 8 Try.underlying26 info_int rfl (by decide) u _ _ rfl O5.out _ 1 1 [.int .i64 q] rfl (src_one w5 _ _ rfl) N6.out N7.out (by have := K5.out.size; simp; omega) ?_; intro v6 w6 o6 g6 n6; have k6 : Kept Nix w w6 := (K5.out.alloc _).grown g6 (fun kk hkk => .inr (O5.out.lt kk hkk).1); have HQ6 := Lib.hid (CL.out _ k6); have K6 := Lib.hid k6; have O6 := Lib.hid o6; clear k6 o6 g6 n6))
      all_goals
        go_wp2_with fail
        rw [N1.out]
        refine ⟨⟨rfl, rfl, rfl, rfl, i + 1, HI.out, rfl, v6, rfl, ?_, K6.out⟩, nearer HI.out rfl⟩
        rw [HT.out, ivs_append]
        exact O6.out
    · have hd : decide ((i : Int) < (n : Int)) = false := decide_eq_false (by omega)
      have hd' : decide (i < n) = false := decide_eq_false hlt
      have him : i = n := by omega
      subst him
      have h := HOU.out
      rw [List.take_of_length_le (by rw [HLX.out]; exact Nat.le_refl _)] at h
      have HH := Lib.hid h
      clear h hlt hi
      go_wp2
      go_ret2
      exact HP.out _ _ HH.out HKP.out

set_option maxHeartbeats 1000000 in
theorem rapply_bad (vx vw : Value) (x ws : List Int) (w : World) (sx : Sl w vx (ivs x)) (sw : Sl w vw (ivs ws)) (hl : ¬ x.length = ws.length) :
    Calls Try.prog 17 #[vx, vw] w fun e w' => e = .returned (.tuple #[.slice none 0 0, .int .i64 1]) ∧ w = w' := by
  have hne : ((x.length : Int) != (ws.length : Int)) = true := bne_iff_ne.2 (fun e => hl (by omega))
  obtain ⟨ao, ca, rfl, -⟩ := sx.ints
  obtain ⟨bo, cb, rfl, -⟩ := sw.ints
  clear sx sw hl
  go_enter Try.func17, Try.ntmps17
  go_wp2
  go_ret2
  exact ⟨rfl, rfl⟩

end Go.Proofs.Ytcenfidenmppcaa
