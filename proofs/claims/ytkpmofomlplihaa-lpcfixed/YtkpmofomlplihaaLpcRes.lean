/- Package lpc: Residual. -/
import Derived.Test.YtkpmofomlplihaaLpcLeaf
import Derived.Test.YtkpmofomlplihaaFill
import Derived.Deep.RegionHeld3
namespace Go.Proofs.Ytkpmofomlplihaa
open Go.RowKit Bx

/-- A slice of integers from lo to hi. -/
theorem run_win_i (w : World) (ao : Option Addr) (len cap lo hi : Nat) (h1 : lo ≤ hi) (h2 : hi ≤ cap) : (Instr.slice 22 (.slice ao len cap) (some (.int .i64 (lo : Int))) (some (.int .i64 (hi : Int))) none).run Try.prog w = .ok (.slice (if cap = lo then ao else ao.map (fun x => x.add lo)) (hi - lo) (cap - lo)) w := by
  have ht : Try.prog.underlying 22 = some (.slice (Try.prog.elem 22)) := by rw [elem_ints]; exact Try.underlying22
  rw [run_slice_lh w 22 ao len cap ht .i64 .i64 (lo : Int) (hi : Int) (by omega) (by omega) (by omega), elem_ints, size_int]
  simp [sliced]

/-- Those just ahead, as a slice. -/
theorem sl_win {w : World} {ao : Option Addr} {len cap : Nat} {zs : List Int} (h : Sl w (.slice ao len cap) (ivs zs)) (i n : Nat) (hk : i + n ≤ len) : Sl w (.slice (if cap = i then ao else ao.map (fun x => x.add i)) n (cap - i)) (ivs ((zs.drop i).take n)) :=
  sl_take_i (sl_drop_i h i (by omega)) n (by omega)

def LResPost (s p : Int) (F x : List Int) (w : World) (e : Ending) (w' : World) : Prop :=
  ∃ u, e = .returned (.tuple #[u, .int .i64 (lresE s p F x)]) ∧ w'.ownsRow w.heap.size 3 1 u (lresL s p F x).length (ivs (lresL s p F x)) ∧ Kept Nix w w'

theorem lres_bad {s p : Int} {F x : List Int} {E : Int} (h : lresE s p F x = E) (h0 : ¬ E = 0) {w w' : World} (hk : Kept Nix w w') : LResPost s p F x w (.returned (.tuple #[.slice none 0 0, .int .i64 E])) w' := by
  have hl : lresL s p F x = [] := by unfold lresL; rw [if_neg (by rw [h]; exact h0)]
  exact ⟨_, by rw [h], by rw [hl]; exact World.ownsRow_nil _ _ _ _, hk⟩

theorem lresE_check {s p : Int} {F : List Int} (x : List Int) (h : lpcB s p F = true) : lresE s p F x = 1 := by unfold lresE; rw [if_pos h]
theorem lresE_short {s p : Int} {F x : List Int} (h : lpcB s p F = false) (h2 : x.length < F.length) : lresE s p F x = 2 := by unfold lresE; rw [if_neg (by rw [h]; decide), if_pos h2]
theorem lresE_wide {s p : Int} {F x : List Int} (h : lpcB s p F = false) (h2 : F.length ≤ x.length) (h3 : (lft F s.toNat x).any wide = true) : lresE s p F x = 14 := by unfold lresE; rw [if_neg (by rw [h]; decide), if_neg (by omega), if_pos h3]
theorem lresE_ok {s p : Int} {F x : List Int} (h : lpcB s p F = false) (h2 : F.length ≤ x.length) (h3 : (lft F s.toNat x).any wide = false) : lresE s p F x = 0 := by unfold lresE; rw [if_neg (by rw [h]; decide), if_neg (by omega), if_neg (by rw [h3]; decide)]
theorem lresL_ok {s p : Int} {F x : List Int} (h : lpcB s p F = false) (h2 : F.length ≤ x.length) (h3 : (lft F s.toNat x).any wide = false) : lresL s p F x = lft F s.toNat x := by unfold lresL; rw [if_pos (lresE_ok h h2 h3)]

theorem wides_next {L : List Int} {i : Nat} (h : (L.take i).any wide = false) (hi : i < L.length) (h2 : wide (L.getD i 0) = false) : (L.take (i + 1)).any wide = false := by
  have e : L.getD i 0 = L[i] := by simp [List.getD, hi]
  rw [e] at h2
  rw [List.take_succ_eq_append_getElem hi, List.any_append, h]
  simp [h2]

theorem wides_here {L : List Int} {i : Nat} (hi : i < L.length) (h2 : wide (L.getD i 0) = true) : L.any wide = true := by
  have e : L.getD i 0 = L[i] := by simp [List.getD, hi]
  rw [e] at h2
  exact List.any_eq_true.2 ⟨_, List.getElem_mem hi, h2⟩

theorem lres_nums {F x : List Int} {S n l i : Nat} (hF : Bd 16384 F) (hx : Bd 1099511627776 x) (hn : F.length = n) (hn2 : n ≤ 32) (hl : x.length = l) (hl2 : l < 1000000) (hi : i < l - n) :
    IntKind.i64.wrap ((n : Int) + (i : Int)) = ((n + i : Nat) : Int) ∧ IntKind.i64.wrap (x.getD (n + i) 0 - td F S x (n + i)) = (lft F S x).getD i 0 ∧ wrap64 ((i : Int) + 1) = ((i + 1 : Nat) : Int) ∧ ((n + i : Nat) : Int) < (l : Int) ∧ n + i < l ∧ (i : Int) < ((l - n : Nat) : Int) := by
  have h1 := td_big hF hx (by omega) S (n + i)
  have h2 := hx.any (by decide) (n + i)
  refine ⟨?_, ?_, ?_, by omega, by omega, by omega⟩
  · rw [IntWalk.i64_in _ (by omega)]; omega
  · rw [IntWalk.i64_in _ (by omega), ← hn, lft_get _ _ _ _ (by omega)]
  · rw [w64_in _ (by omega)]; omega

def LResInv (vx vf : Value) (n l g : Nat) (F x : List Int) (S : Nat) (w : World) (a : Act) (w' : World) : Prop :=
  a.defers = [] ∧ a.tmps.size = 63 ∧ a.tmps[0]? = some vx ∧ a.tmps[7]? = some (.int .i64 (n : Int)) ∧ a.tmps[8]? = some vf ∧ a.tmps[9]? = some (.slice (some ⟨g, 0, none⟩) (l - n) (l - n)) ∧ a.tmps[32]? = some (.int .i64 ((l - n : Nat) : Int)) ∧
  ∃ i : Nat, i ≤ l - n ∧ a.tmps[33]? = some (.int .i64 (i : Int)) ∧ ((lft F S x).take i).any wide = false ∧ w'.ownsRow g 3 1 (.slice (some ⟨g, 0, none⟩) (l - n) (l - n)) (l - n) (ivs (fill (lft F S x) i)) ∧ Kept Nix w w'

set_option maxRecDepth 10000 in
set_option maxHeartbeats 4000000 in
theorem lres_any (s p : Int) (u v : Value) (F x : List Int) (w : World) (hu : Sl w u (ivs F)) (hv : Sl w v (ivs x)) (hx : Bd 1099511627776 x) (hl : x.length < 1000000) :
    Calls Try.prog 12 #[v, .agg #[.int .i64 s, .int .i64 p, u]] w (LResPost s p F x w) := by
  obtain ⟨ao, ca, rfl, -⟩ := hu.ints
  obtain ⟨bo, cb, rfl, hcb, -⟩ := hv.ints
  have k1 : Kept Nix w (w.alloc (.cells #[.int .i64 s, .int .i64 p, .slice ao F.length ca] 24)) := (Kept.refl _ w).alloc _
  have HB := Lib.hid (heap_alloc_new w (.cells #[.int .i64 s, .int .i64 p, .slice ao F.length ca] 24))
  have CK := Lib.hid (check_any s p _ F _ (hu.nix k1))
  have HU := Lib.hid (hu.nix k1)
  have HV := Lib.hid (hv.nix k1)
  have K1 := Lib.hid k1
  have HX := Lib.hid hx
  have HL := Lib.hid hl
  have HCB := Lib.hid hcb
  clear hu hv k1 hx hl hcb
  have hmf : ∀ (fn : Fn) (first cap : Array Value) (w : World), (Instr.makeFunc fn first cap).run Try.prog w = .ok (.func fn first cap) w := fun _ _ _ _ => rfl
  unfold lpcE at CK
  cases hb : lpcB s p F with
  | true =>
    have HP := Lib.hid (fun w' (hk : Kept Nix w w') => lres_bad (lresE_check x hb) (by decide) hk)
    rw [if_pos hb] at CK
    clear hb
    generalize F.length = n at *
    generalize x.length = l at *
    go_enter Try.func12, Try.ntmps12
    go_upto_region 1 with fail
    generalize w.alloc (.cells #[.int .i64 s, .int .i64 p, .slice ao n ca] 24) = w1 at *
    go_wp2_with (first
      | (refine wpList_load_row rfl 24 _ rfl w.heap.size rfl 24 _ (0, 0) _ HB.out Try.underlying24 rfl size_lpc ?_)
      | (go_at_call 14; refine CK.out.mono ?_; rintro e w2 ⟨rfl, k2⟩; have K2 := Lib.hid (nix_trans K1.out k2); clear k2 CK))
    go_ret2
    exact HP.out _ K2.out
  | false =>
    rw [if_neg (by rw [hb]; decide)] at CK
    have OK := Lib.hid (lpc_ok hb)
    obtain ⟨S, rfl⟩ : ∃ S : Nat, s = (S : Int) := ⟨s.toNat, by have := OK.out.s0; omega⟩
    by_cases hsh : x.length < F.length
    · have HP := Lib.hid (fun w' (hk : Kept Nix w w') => lres_bad (lresE_short hb hsh) (by decide) hk)
      have hd : decide ((x.length : Int) < (F.length : Int)) = true := decide_eq_true (by omega)
      have hd2 : decide (x.length < F.length) = true := decide_eq_true hsh
      clear hb hsh OK
      generalize F.length = n at *
      generalize x.length = l at *
      go_enter Try.func12, Try.ntmps12
      go_upto_region 1 with fail
      generalize w.alloc (.cells #[.int .i64 (S : Int), .int .i64 p, .slice ao n ca] 24) = w1 at *
      go_wp2_with (first
        | (refine wpList_load_row rfl 24 _ rfl w.heap.size rfl 24 _ (0, 0) _ HB.out Try.underlying24 rfl size_lpc ?_)
        | (go_at_call 14; refine CK.out.mono ?_; rintro e w2 ⟨rfl, k2⟩; have K2 := Lib.hid (nix_trans K1.out k2); have hb2 := k2.heap HB.out id; have y2 : w2.cell? ⟨w.heap.size, 2, none⟩ = some (.slice ao n ca) := (by rw [cell_of hb2]; rfl); clear k2 CK hb2))
      go_ret2
      exact HP.out _ K2.out
    · have HW := Lib.hid (fun h3 w' (hk : Kept Nix w w') => lres_bad (lresE_wide (x := x) hb (by omega) h3) (by decide) hk)
      have HG := Lib.hid (fun h3 => And.intro (lresE_ok (x := x) hb (by omega) h3) (lresL_ok (x := x) hb (by omega) h3))
      simp only [Int.toNat_natCast] at HW HG
      have LL := Lib.hid (lft_length F S x)
      have LTD := Lib.hid (fun i => td_win F x S i)
      have hd : decide ((x.length : Int) < (F.length : Int)) = false := decide_eq_false (by omega)
      have hd2 : decide (x.length < F.length) = false := decide_eq_false hsh
      have hm : wrap64 ((x.length : Int) - (F.length : Int)) = ((x.length - F.length : Nat) : Int) := by have := HL.out; have := OK.out.hi; rw [w64_in _ (by omega)]; omega
      have hmk := make_int (x.length - F.length) (by have := HL.out; omega)
      have HNL := Lib.hid (show F.length ≤ x.length by omega)
      have HN32 := Lib.hid OK.out.hi
      have HN1 := Lib.hid OK.out.lo
      clear hb hsh
      generalize hn : F.length = n at *
      generalize hl' : x.length = l at *
      have HN := Lib.hid hn
      have HLX := Lib.hid hl'
      clear hn hl'
      go_enter Try.func12, Try.ntmps12
      go_upto_region 1 with fail
      generalize w.alloc (.cells #[.int .i64 (S : Int), .int .i64 p, .slice ao n ca] 24) = w1 at *
      go_wp2_with (first
        | (refine wpList_load_row rfl 24 _ rfl w.heap.size rfl 24 _ (0, 0) _ HB.out Try.underlying24 rfl size_lpc ?_)
        | (refine wpList_load_row rfl 24 _ rfl w.heap.size rfl 24 _ (0, 0) _ HB2.out Try.underlying24 rfl size_lpc ?_)
        | (go_at_call 14; refine CK.out.mono ?_; rintro e w2 ⟨rfl, k2⟩; have K12 := Lib.hid k2; have HB2 := Lib.hid (k2.heap HB.out id); have y2 : w2.cell? ⟨w.heap.size, 2, none⟩ = some (.slice ao n ca) := (by rw [cell_of HB2.out]; rfl); clear k2 CK))
      clear hmk hd hd2 hm hmf y2
      have K2 := Lib.hid (nix_trans K1.out K12.out)
      refine wp_loop (LResInv (.slice bo l cb) (.func (.func 21) #[.agg #[.int .i64 (S : Int), .int .i64 p, .slice ao n ca]] #[]) n l w2.heap.size F x S w1) (fun a _ => (l - n) - (intOf (a.tmps.getD 33 undef)).toNat) ?_ ?_
      · refine ⟨rfl, rfl, rfl, rfl, rfl, rfl, rfl, 0, Nat.zero_le _, rfl, rfl, ?_, K12.out.alloc _⟩
        rw [fill_zero, LL.out]
        exact lit_base w2 _ (Nat.le_refl _) _ (l - n) (by simp) (by have := HL.out; simp only [maxLen]; omega)
      · have G2 := Lib.hid (show w.heap.size ≤ w2.heap.size from K2.out.size)
        rintro ⟨tm, df⟩ w3 ⟨rfl, hs, h0, h7, h8, h9, h32, i, hi, h33, hwd, ho, hk⟩
        simp only at hs h0 h7 h8 h9 h32 h33
        obtain ⟨f, hf, hg⟩ := fr_open hs
        have e0 := hg _ _ h0
        have e7 := hg _ _ h7
        have e8 := hg _ _ h8
        have e9 := hg _ _ h9
        have e32 := hg _ _ h32
        have e33 := hg _ _ h33
        simp only [List.range, List.range.loop, List.map] at hf
        rw [e0, e7, e8, e9, e32, e33] at hf
        clear e0 e7 e8 e9 e32 e33 hg hs h0 h7 h8 h9 h32 h33
        subst hf
        have HK := Lib.hid hk
        have HO := Lib.hid ho
        have HWD := Lib.hid hwd
        clear ho hk hwd
        by_cases hlt : i < l - n
        · obtain ⟨b1, o1, rfl, hc1⟩ := cell_kept HV.out (n + i) (by have := HLX.out; omega)
          obtain ⟨m1, m2, m3, m4, m5, m6⟩ := lres_nums (S := S) OK.out.bd HX.out HN.out HN32.out HLX.out HL.out hlt
          have hc3 := hc1 _ HK.out
          have hW := fun w => run_win_i w (some ⟨b1, o1, none⟩) l cb i (n + i) (by omega) (by have := HCB.out; omega)
          rw [show n + i - i = n by omega] at hW
          have FO := Lib.hid (fore_any S p _ _ F ((x.drop i).take n) w3.drew (HU.out.nix HK.out.drew) (sl_win (HV.out.nix HK.out.drew) i n (by omega)) OK.out.bd (bd_take (bd_drop HX.out i) n) (by rw [List.length_take, List.length_drop, HLX.out, HN.out]; omega) (by rw [HN.out]; exact HN32.out) (by have := OK.out.s15; omega))
          have LT := LTD.out i
          rw [HN.out] at FO
          rw [LT] at FO
          have HI := Lib.hid hlt
          have M3 := Lib.hid m3
          have HST := Lib.hid (fill_set (lft F S x) i (by rw [LL.out]; exact hlt))
          have HWN := Lib.hid (fun h => wides_next HWD.out (show i < (lft F S x).length by rw [LL.out]; exact hlt) h)
          have HWH := Lib.hid (fun h => wides_here (show i < (lft F S x).length by rw [LL.out]; exact hlt) h)
          obtain ⟨z, c3⟩ := fill_cell HO.out LL.out hlt
          have hzf : w3.frozen? ⟨w2.heap.size, i, none⟩ = false := HO.out.frozenAt i
          have CL := Lib.hid hc1
          clear hc1 hlt hi m3 m5 LT
          generalize (if cb = i then some ({ block := b1, off := o1 } : Addr) else _) = aoV at *
          generalize cb - i = cV at *
          generalize hy : (lft F S x).getD i 0 = y at *
          have HY := Lib.hid hy
          clear hy
          generalize n + i = ni at *
          generalize x.getD ni 0 = xi at *
          generalize td F S x ni = ti at *
          go_wp2_with fail
          go_region_held3 (fun w' => w'.cell? ⟨b1, o1 + ni, none⟩ = some (.int .i64 xi))
            (first | go_keep | (exact HQ5.out))
            (first
              | (go_at_call 21; refine FO.out.mono ?_; rintro e w5 ⟨rfl, hw5⟩; have hk5 : Kept Nix w3.drew w5 := (by rw [hw5]; exact (Kept.refl _ _).alloc _); have HQ5 := Lib.hid (CL.out _ (nix_trans HK.out.drew hk5)); have K5 := Lib.hid hk5; clear hw5 hk5))
          all_goals
            have K35 := Lib.hid (nix_trans ((Kept.refl Nix w3).drew) K5.out)
            have KW := Lib.hid (nix_trans HK.out K35.out)
            have O5 := Lib.hid (K35.out.owns HO.out (fun _ _ h => h))
            obtain ⟨z5, c5⟩ := fill_cell O5.out LL.out HI.out
            have hzf5 : w5.frozen? ⟨w2.heap.size, i, none⟩ = false := O5.out.frozenAt i
            have hdd : decide (i < l - n) = true := decide_eq_true HI.out
            clear hc3 c3 hzf hW m1 m2 m4
          all_goals by_cases hw1 : y ≤ -2147483648
          case' pos =>
            have hda : decide (y ≤ -2147483648) = true := decide_eq_true hw1
            have HFF := Lib.hid (HWH.out (by unfold wide; rw [hda]; rfl))
            clear hw1
            go_upto_if 56 with fail
            clear hda
            go_wp2
            go_ret2
            exact HW.out HFF.out _ (nix_trans K1.out KW.out)
          all_goals by_cases hw2 : 2147483648 ≤ y
          case' pos =>
            have hda : decide (y ≤ -2147483648) = false := decide_eq_false hw1
            have hdb : decide (2147483648 ≤ y) = true := decide_eq_true hw2
            have HFF := Lib.hid (HWH.out (by unfold wide; rw [hda, hdb]; rfl))
            clear hw1 hw2
            go_upto_if 56 with fail
            clear hda hdb
            go_wp2
            go_ret2
            exact HW.out HFF.out _ (nix_trans K1.out KW.out)
          have hda : decide (y ≤ -2147483648) = false := decide_eq_false hw1
          have hdb : decide (2147483648 ≤ y) = false := decide_eq_false hw2
          have HFF := Lib.hid (HWN.out (by unfold wide; rw [hda, hdb]; rfl))
          clear hw1 hw2
          go_upto_if 56 with fail
          clear hda hdb
          go_wp2
          rw [M3.out]
          refine ⟨⟨rfl, rfl, rfl, rfl, rfl, rfl, rfl, i + 1, HI.out, rfl, HFF.out, ?_, KW.out.setCell (.inr K12.out.size) _⟩, nearer HI.out rfl⟩
          rw [← HST.out, ← ivs_set]
          exact (O5.out.stored i _).1
        · have hie : i = l - n := by omega
          subst hie
          have hdd : decide (l - n < l - n) = false := decide_eq_false hlt
          have h1 := HWD.out
          rw [List.take_of_length_le (by rw [LL.out]; exact Nat.le_refl _)] at h1
          have HP := Lib.hid (HG.out h1)
          have h2 := HO.out
          rw [show fill (lft F S x) (l - n) = lft F S x by rw [← LL.out, fill_last]] at h2
          have HO2 := Lib.hid h2
          clear h1 h2 hlt hi
          go_wp2
          go_ret2
          exact ⟨_, by rw [HP.out.1]; rfl, by rw [HP.out.2, LL.out]; exact owns_weak HO2.out K2.out.size, nix_trans K1.out HK.out⟩

end Go.Proofs.Ytkpmofomlplihaa
