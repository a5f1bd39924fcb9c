/- Package fixed: Restore. -/
import Derived.Test.YtoobnanbhniolaaFixAdd
namespace Go.Proofs.Ytoobnanbhniolaa
open Go.RowKit Bx

theorem owns_less_base {w : World} {base base' size n : Nat} {e : TypeId} {v : Value} {xs : List Value} (h : w.ownsRow base e size v n xs) (hb : base' ≤ base) : w.ownsRow base' e size v n xs := by
  refine ⟨h.1, ?_⟩
  rcases h.2 with hh | ⟨g, cap, cur, rfl, hb', rest⟩
  · exact .inl hh
  · exact .inr ⟨g, cap, cur, rfl, by omega, rest⟩

set_option maxHeartbeats 1000000 in
theorem rst_bad (vw vr : Value) (A : List Int) (w : World) (hw : Sl w vw (ivs A)) (h : 4 < A.length) :
    Calls Try.prog 17 #[vw, vr] w fun e w' => e = .returned (.tuple #[.slice none 0 0, .int .i64 1]) ∧ w' = w := by
  obtain ⟨ao, cap, rfl, _⟩ := hw.ints
  have hd : decide ((4 : Int) < (A.length : Int)) = true := decide_eq_true (by omega)
  clear hw h
  generalize A.length = n at *
  go_enter Try.func17, Try.ntmps17
  go_wp2
  refine wp_scope_jumps 0 (fun _ _ => False) (fun _ _ => 0) rfl ?_ ?_
  · go_wp2
    simp only [Exit.jump]
    go_ret2
    exact ⟨rfl, rfl⟩
  · intro a' w' hi
    exact hi.elim

theorem from_at {n cap k : Nat} {ao : Option Addr} (hn : n ≤ cap) (m : Nat) (hm : m = n - k) : ∀ g cap', Value.slice ao n cap = .slice (some ⟨g, 0, none⟩) n cap' → 0 < m → (if cap = k then ao else ao.map (fun x => x.add k)) = some ⟨g, k, none⟩ := by
  intro g cap' e h0
  simp only [Value.slice.injEq] at e
  obtain ⟨rfl, _, rfl⟩ := e
  rw [if_neg (by omega)]
  simp [Addr.add_lit]

set_option maxHeartbeats 1000000 in
theorem rst_any (k : Nat) (x : List Int) (vw vr : Value) (w : World) (hk : k ≤ 4) (hkl : k ≤ x.length) (hl : x.length < 1099511627776) (hb : Bd 1099511627776 x) (hw : Sl w vw (ivs (x.take k))) (hr : Sl w vr (ivs (dn k x))) :
    Calls Try.prog 17 #[vw, vr] w (RstPost x w) := by
  have htl : (x.take k).length = k := by simp; omega
  have hfl : ([x.take k, dn k x] : List (List Int)).flatten = rsRow x k k := by rw [rsRow_top]; simp
  have hfn : (rsRow x k k).length = x.length := rsRow_length x k k hkl (Nat.le_refl _)
  obtain ⟨ao, cap, rfl, hc1, hc2, _⟩ := hw.ints
  have HC := Lib.hid (concat_any _ _ _ (chs_two w _ _ _ _ hw hr 22) (show 2 < 1099511627776 by decide) (by rw [hfl, hfn]; exact hl))
  rw [hfl, hfn] at HC
  rw [htl] at HC hc1 hw
  rw [htl]
  obtain ⟨bo, cap2, rfl, _, _, _⟩ := hr.ints
  have HW := Lib.hid hw
  have HB := Lib.hid hb
  have HKK := Lib.hid hk
  have HKL := Lib.hid hkl
  have HL := Lib.hid hl
  have hd : decide ((4 : Int) < (k : Int)) = false := decide_eq_false (by omega)
  have KA := Lib.hid (show Kept Nix w (w.alloc (.cells #[.slice ao k cap, .slice bo (dn k x).length cap2] 22)) from (Kept.refl _ w).alloc _)
  clear hw hr hb hk hkl hl htl hfl hfn hc1 hc2
  generalize (dn k x).length = nr at *
  go_enter Try.func17, Try.ntmps17
  go_wp2
  refine wp_scope_jumps 0 (fun a' w' => ∃ m vx aoV c, m = x.length - k ∧ (∀ g cap, vx = .slice (some ⟨g, 0, none⟩) x.length cap → 0 < m → aoV = some ⟨g, k, none⟩) ∧ RstInv k x (.slice ao k cap) vx (.slice aoV m c) w a' w') (fun a' _ => rstMeasure a') rfl ?_ ?_
  · go_upto_region 5 with (go_at_call 21; refine HC.out.mono ?_; rintro e w2 ⟨u2, rfl, ho2, hk2⟩; have HO2 := Lib.hid ho2; have HK2 := Lib.hid (nix_trans KA.out hk2); clear ho2 hk2)
    obtain ⟨xo, xcap, rfl, hx1, hx2⟩ := owns_shape HO2.out
    have hf1 := fun w => run_from_i w xo x.length xcap k HKL.out
    have hf2 := fun w => run_from_i_at w xo x.length xcap k HKL.out
    have HV := Lib.hid (from_at (ao := xo) (k := k) hx1 (x.length - k) rfl)
    generalize (if xcap = k then xo else xo.map (fun x => x.add k)) = aoV at *
    generalize hm : x.length - k = m at *
    generalize xcap - k = cV at *
    have HM := Lib.hid hm
    clear hm hx1 hx2
    go_wp2
    go_step3
    rename_i K hK
    refine hK _ _ ?_
    have ho3 := owns_less_base HO2.out (base' := w.heap.size) (by simp)
    refine wp_mono (rst_pass k m x (.slice ao k cap) (.slice xo x.length xcap) aoV cV w HKK.out HKL.out HM.out.symm HL.out HB.out HW.out HV.out _ _ ⟨rfl, rfl, rfl, rfl, rfl, k, Nat.le_refl _, rfl, ho3, HK2.out⟩) ?_
    intro e a' w' h
    cases e with
    | goto l => exact ⟨h.1, m, _, aoV, cV, HM.out.symm, HV.out, h.2.1⟩
    | normal => exact h
    | exit id => exact h
    | ret => exact h
    | panic ch => exact h
    | outgrown => exact h
  · rintro a' w' ⟨m, vx, aoV, cV, hm, hv, hi⟩
    refine wp_seq (wp_skip ?_)
    refine wp_mono (rst_pass k m x _ _ aoV cV w HKK.out HKL.out hm HL.out HB.out HW.out hv _ _ hi) ?_
    intro e a' w' h
    cases e with
    | goto l => exact ⟨h.1, ⟨m, vx, aoV, cV, hm, hv, h.2.1⟩, h.2.2⟩
    | normal => exact h
    | exit id => exact h
    | ret => exact h
    | panic ch => exact h
    | outgrown => exact h

end Go.Proofs.Ytoobnanbhniolaa
