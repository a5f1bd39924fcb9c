/- package window: Apply. -/
import Derived.Test.YtcenfidenmppcaaWinWs
namespace Go.Proofs.Ytcenfidenmppcaa
open Go.RowKit Bx

def ApInv (vx vw : Value) (L : List Int) (n g : Nat) (w : World) (a : Act) (w' : World) : Prop :=
  a.defers = [] ∧ a.tmps.size = 36 ∧ a.tmps[1]? = some vw ∧ a.tmps[6]? = some (.slice (some ⟨g, 0, none⟩) n n) ∧ a.tmps[17]? = some vx ∧ a.tmps[18]? = some (.int .i64 (n : Int)) ∧
  ∃ i : Nat, i ≤ n ∧ a.tmps[19]? = some (.int .i64 (i : Int)) ∧ w'.ownsRow w.heap.size 3 1 (.slice (some ⟨g, 0, none⟩) n n) n (ivs (fill L i)) ∧ Kept Nix w w'

theorem ap_nums (a b : Int) (n i : Nat) (hn : n < 1099511627776) (hi : i < n) (h1 : -1099511627776 ≤ a ∧ a ≤ 1099511627776) (h2 : 0 ≤ b ∧ b ≤ 32768) :
    wrap64 ((i : Int) + 1) = ((i + 1 : Nat) : Int) ∧ (i : Int) < (n : Int) ∧ decide ((i : Int) < (n : Int)) = true ∧ decide (i < n) = true ∧ wrap64 (a * b) = a * b ∧ wrap64 (a * b / 32768) = a * b / 32768 := by
  have := prod_bd a b h1 h2
  refine ⟨by unfold wrap64; omega, by omega, decide_eq_true (by omega), decide_eq_true hi, w64_in _ (by omega), w64_in _ (by omega)⟩

/-- The cell of a slice's number, in any world that kept it. -/
theorem cell_kept {w : World} {ao : Option Addr} {cap : Nat} {zs : List Int} {m : Nat} (hs : Sl w (.slice ao m cap) (ivs zs)) (i : Nat) (hi : i < zs.length) : ∃ b off, ao = some ⟨b, off, none⟩ ∧ ∀ w', Kept Nix w w' → w'.cell? ⟨b, off + i, none⟩ = some (.int .i64 (zs.getD i 0)) := by
  obtain ⟨ao', cap', e, _, _, hp⟩ := hs.ints
  simp only [Value.slice.injEq] at e
  obtain ⟨rfl, -, -⟩ := e
  obtain ⟨b, off, e1, hb, hc⟩ := hp (by omega)
  exact ⟨b, off, e1, fun w' hk' => (World.cell?_of_block (hk'.block _ hb id)).trans (hc i hi)⟩

def ApPost (x ws : List Int) (w : World) (e : Ending) (w' : World) : Prop :=
  ∃ u, e = .returned (.tuple #[u, .int .i64 0]) ∧ w'.ownsRow w.heap.size 3 1 u x.length (ivs (apL x ws)) ∧ Kept Nix w w'

set_option maxHeartbeats 1000000 in
theorem apply_any (vx vw : Value) (x ws : List Int) (w : World) (sx : Sl w vx (ivs x)) (sw : Sl w vw (ivs ws)) (hl : x.length = ws.length) (hx : Bd 1099511627776 x) (hw : ∀ n ∈ ws, 0 ≤ n ∧ n ≤ 32768) (hm : x.length < 1099511627776) :
    Calls Try.prog 16 #[vx, vw] w (ApPost x ws w) := by
  obtain ⟨ao, ca, rfl, _⟩ := sx.ints
  obtain ⟨bo, cb, rfl, _⟩ := sw.ints
  have HX := Lib.hid hx
  have HW := Lib.hid hw
  have SX := Lib.hid sx
  have SW := Lib.hid sw
  have HLX := Lib.hid (show (apL x ws).length = x.length from apL_length x ws hl)
  have HP : Hid (∀ u w', w'.ownsRow w.heap.size 3 1 u x.length (ivs (apL x ws)) → Kept Nix w w' → ApPost x ws w (.returned (.tuple #[u, .int .i64 0])) w') := Lib.hid (fun u w' ho hk => ⟨u, rfl, ho, hk⟩)
  rw [← hl]
  have HL := Lib.hid hl
  have HM := Lib.hid hm
  clear sx sw hx hw hl
  generalize hn : x.length = n at *
  have HN := Lib.hid hn
  have hmk := make_int n (by omega)
  have hne : ((n : Int) != (n : Int)) = false := bne_self_eq_false _
  clear hn hm
  go_enter Try.func16, Try.ntmps16
  go_wp2
  clear hne hmk
  refine wp_loop (ApInv (.slice ao n ca) (.slice bo n cb) (apL x ws) n w.heap.size w) (fun a _ => n - (intOf (a.tmps.getD 19 undef)).toNat) ?_ ?_
  · refine ⟨rfl, rfl, rfl, rfl, rfl, rfl, 0, Nat.zero_le _, rfl, ?_, (Kept.refl _ w).alloc _⟩
    rw [fill_zero, HLX.out]
    exact lit_base w _ (Nat.le_refl _) _ n (by simp) (by have := HM.out; simp only [maxLen]; omega)
  · rintro ⟨tm, df⟩ w1 ⟨rfl, hs, h1, h6, h17, h18, i, hi, h19, ho, hk⟩
    simp only at hs h1 h6 h17 h18 h19
    obtain ⟨f, hf, hg⟩ := fr_open hs
    have e1 := hg _ _ h1
    have e6 := hg _ _ h6
    have e17 := hg _ _ h17
    have e18 := hg _ _ h18
    have e19 := hg _ _ h19
    simp only [List.range, List.range.loop, List.map] at hf
    rw [e1, e6, e17, e18, e19] at hf
    clear e1 e6 e17 e18 e19 hg hs h1 h6 h17 h18 h19
    subst hf
    have HK := Lib.hid hk
    have HO := Lib.hid ho
    clear ho hk
    have HG := Lib.hid (Nat.le_refl w.heap.size)
    by_cases hlt : i < n
    · obtain ⟨b1, o1, rfl, hc1⟩ := cell_kept SX.out i (by rw [HN.out]; exact hlt)
      obtain ⟨b2, o2, rfl, hc2⟩ := cell_kept SW.out i (by rw [← HL.out]; exact hlt)
      have c1 := hc1 w1 HK.out
      have c2 := hc2 w1 HK.out
      obtain ⟨n1, n2, n3, n4, n5, n6⟩ := ap_nums (x.getD i 0) (ws.getD i 0) n i HM.out hlt (HX.out.any (by decide) i) (HW.out _ (by rw [List.getD_eq_getElem?_getD, List.getElem?_eq_getElem (show i < ws.length by rw [← HL.out]; exact hlt)]; exact List.getElem_mem _))
      have N1 := Lib.hid n1
      have HI := Lib.hid hlt
      have hz : w1.frozen? ⟨w.heap.size, i, none⟩ = false := HO.out.frozenAt i
      obtain ⟨z, c3⟩ := fill_cell HO.out HLX.out hlt
      have HS := Lib.hid (fill_set (apL x ws) i (by rw [HLX.out]; exact hlt))
      have HA := Lib.hid (apL_get x ws i (by rw [HN.out]; exact hlt) (by rw [← HL.out]; exact hlt))
      clear n1 hlt hi hc1 hc2
      generalize x.getD i 0 = xi at *
      generalize ws.getD i 0 = yi at *
      go_wp2
      rw [N1.out]
      refine ⟨⟨rfl, rfl, rfl, rfl, rfl, rfl, i + 1, HI.out, rfl, ?_, HK.out.setCell (.inr HG.out) _⟩, nearer HI.out rfl⟩
      rw [← HS.out, HA.out, ← ivs_set]
      exact (HO.out.stored i _).1
    · have hd : decide ((i : Int) < (n : Int)) = false := decide_eq_false (by omega)
      have hd' : decide (i < n) = false := decide_eq_false hlt
      have him : i = n := by omega
      subst him
      have h := HO.out
      rw [show fill (apL x ws) i = apL x ws by rw [show fill (apL x ws) i = fill (apL x ws) (apL x ws).length by rw [HLX.out], fill_last]] at h
      have HH := Lib.hid h
      clear h hlt hi
      go_wp2
      go_ret2
      exact HP.out _ _ HH.out HK.out

set_option maxHeartbeats 1000000 in
theorem apply_bad (vx vw : Value) (x ws : List Int) (w : World) (sx : Sl w vx (ivs x)) (sw : Sl w vw (ivs ws)) (hl : ¬ x.length = ws.length) :
    Calls Try.prog 16 #[vx, vw] w fun e w' => e = .returned (.tuple #[.slice none 0 0, .int .i64 1]) ∧ w = w' := by
  have hne : ((x.length : Int) != (ws.length : Int)) = true := bne_iff_ne.2 (fun e => hl (by omega))
  obtain ⟨ao, ca, rfl, -⟩ := sx.ints
  obtain ⟨bo, cb, rfl, -⟩ := sw.ints
  clear sx sw hl
  go_enter Try.func16, Try.ntmps16
  go_wp2
  go_ret2
  exact ⟨rfl, rfl⟩

end Go.Proofs.Ytcenfidenmppcaa
