/- Package pcm: Join. -/
import Derived.Test.YtpiongdkfebchaaPcmPart
import Derived.Test.YtpiongdkfebchaaAwake06
import Derived.Laws.ResultCell
namespace Go.Proofs.Ytpiongdkfebchaa
open Go.RowKit Bx

/-- What is wrong with two sounds that shall be joined. -/
def joinE (r d : Int) (n : Nat) (r' d' : Int) (n' : Nat) : Int := if n ≠ n' then 12 else if d ≠ d' then 10 else if r ≠ r' then 11 else 0

def joinL (L M : List (List Int)) : List (List Int) := (List.range L.length).map (fun i => L.getD i [] ++ M.getD i [])

def joinTo (L M : List (List Int)) (i : Nat) : List (List Int) := (List.range i).map (fun i => L.getD i [] ++ M.getD i [])

theorem joinTo_succ (L M : List (List Int)) (i : Nat) : joinTo L M (i + 1) = joinTo L M i ++ [L.getD i [] ++ M.getD i []] := by simp [joinTo, List.range_succ]
theorem joinTo_len (L M : List (List Int)) (i : Nat) : (joinTo L M i).length = i := by simp [joinTo]

def joinS (r d : Int) (L : List (List Int)) (r' d' : Int) (M : List (List Int)) : Int × Int × List (List Int) := if joinE r d L.length r' d' M.length = 0 then (r, d, joinL L M) else (0, 0, [])

theorem join_start (w : World) (x y : Array Value) : ∀ w', w' = ((w.alloc (.cells x 24)).alloc (.cells y 24)).alloc (.cells #[.int .i64 0, .int .i64 0, .slice none 0 0] 24) →
    Kept Nix w w' ∧ w'.heap[w.heap.size]? = some (.cells x 24 (0, 0)) ∧ w'.heap[w.heap.size + 1]? = some (.cells y 24 (0, 0)) ∧ w'.heap[w.heap.size + 1 + 1]? = some (.cells #[.int .i64 0, .int .i64 0, .slice none 0 0] 24 (0, 0)) ∧ w'.heap.size = w.heap.size + 3 := by
  rintro w' rfl
  refine ⟨(((Kept.refl _ w).alloc _).alloc _).alloc _, ?_, (Below.heap_alloc _ _ _ (by simp)).trans (heap_new (by simp)), heap_new (by simp), by simp⟩
  exact (Below.heap_alloc _ _ _ (by simp; omega)).trans ((Below.heap_alloc _ _ _ (by simp)).trans (heap_alloc_new _ _))

/-- A result of two: a sound that lives in memory, and a number. -/
theorem results_sound1 {fn : Func} {p u : Tmp} (h : fn.results = #[.cell p 24, .tmp u]) (tmps : Array Value) (w : World) (g : Nat) (cs : Array Value) (x : Int)
    (hp : tmps.getD p undef = .pointer (some ⟨g, 0, none⟩)) (hg : w.heap[g]? = some (.cells cs 24 (0, 0))) (hc : cs.size = 3) (hu : tmps.getD u undef = .int .i64 x) :
    (results fn tmps).run Try.prog w = .ok (.tuple #[.agg cs, .int .i64 x]) w := by
  have h1 := run_loadVar_row (P := Try.prog) w g 24 24 cs (0, 0) _ hg Try.underlying24 rfl (by rw [hc]; exact size_sound)
  rw [results_cell_tmp h, hp, hu]
  simp [asAddr, h1, Result.andThen]

set_option maxRecDepth 10000 in
set_option maxHeartbeats 2000000 in
theorem join_bad (r d r' d' : Int) (v v' : Value) (L M : List (List Int)) (w : World) (h : Chs w v L) (h' : Chs w v' M) (e0 : Int) (he : joinE r d L.length r' d' M.length = e0) (hne : e0 ≠ 0) :
    Calls Try.prog 25 #[.agg #[.int .i64 r, .int .i64 d, v], .agg #[.int .i64 r', .int .i64 d', v']] w fun e w' => e = .returned (.tuple #[.agg #[.int .i64 0, .int .i64 0, .slice none 0 0], .int .i64 e0]) ∧ Kept Nix w w' := by
  obtain ⟨ao, cap, rfl, _, _, _⟩ := h.open
  obtain ⟨bo, bcap, rfl, _, _, _⟩ := h'.open
  obtain ⟨k0, h2, h3, h4, hsz⟩ := join_start w #[.int .i64 r, .int .i64 d, .slice ao L.length cap] #[.int .i64 r', .int .i64 d', .slice bo M.length bcap] _ rfl
  have K0 := Lib.hid k0
  have H4 := Lib.hid h4
  clear k0 h2 h3 h4 hsz h h'
  unfold joinE at he
  by_cases c1 : L.length = M.length
  · have t1 : ((L.length : Int) != (M.length : Int)) = false := by simp [c1]
    rw [if_neg (by simp [c1])] at he
    by_cases c2 : d = d'
    · subst c2
      have t2 : (d != d) = false := by simp
      rw [if_neg (by simp)] at he
      by_cases c3 : r = r'
      · rw [if_neg (by simp [c3])] at he
        exact absurd he.symm hne
      · have t3 : (r != r') = true := bne_iff_ne.2 c3
        rw [if_pos c3] at he
        subst he
        clear c1 c3 hne
        go_enter Try.func25, Try.ntmps25
        go_wp2_with (first | (refine wpList_store_row rfl 24 _ _ rfl _ _ rfl rfl 24 _ H4.out size_sound rfl (one_sound _ _ _ _ _) ?_))
        exact bodyPost_ret (results_sound1 rfl _ _ (w.heap.size + 1 + 1) _ 11 rfl (heap_row _ H4.out) rfl rfl) rfl ⟨rfl, K0.out.setRow (.inr (by omega)) _⟩
    · have t2 : (d != d') = true := bne_iff_ne.2 c2
      rw [if_pos c2] at he
      subst he
      clear c1 c2 hne
      go_enter Try.func25, Try.ntmps25
      go_wp2_with (first | (refine wpList_store_row rfl 24 _ _ rfl _ _ rfl rfl 24 _ H4.out size_sound rfl (one_sound _ _ _ _ _) ?_))
      exact bodyPost_ret (results_sound1 rfl _ _ (w.heap.size + 1 + 1) _ 10 rfl (heap_row _ H4.out) rfl rfl) rfl ⟨rfl, K0.out.setRow (.inr (by omega)) _⟩
  · have t1 : ((L.length : Int) != (M.length : Int)) = true := bne_iff_ne.2 (by omega)
    rw [if_pos c1] at he
    subst he
    clear c1 hne
    go_enter Try.func25, Try.ntmps25
    go_wp2_with (first | (refine wpList_store_row rfl 24 _ _ rfl _ _ rfl rfl 24 _ H4.out size_sound rfl (one_sound _ _ _ _ _) ?_))
    exact bodyPost_ret (results_sound1 rfl _ _ (w.heap.size + 1 + 1) _ 12 rfl (heap_row _ H4.out) rfl rfl) rfl ⟨rfl, K0.out.setRow (.inr (by omega)) _⟩

def JoinInv (r d r' d' : Int) (v v' : Value) (L M : List (List Int)) (w : World) (a : Act) (w' : World) : Prop :=
  a.defers = [] ∧ a.tmps.size = 60 ∧ a.tmps[3]? = some (.pointer (some ⟨w.heap.size + 1, 0, none⟩)) ∧ a.tmps[4]? = some (.pointer (some ⟨w.heap.size + 1 + 1, 0, none⟩)) ∧ a.tmps[6]? = some (.pointer (some ⟨w.heap.size + 1 + 1 + 1, 0, none⟩)) ∧ a.tmps[38]? = some v ∧ a.tmps[39]? = some (.int .i64 (L.length : Int)) ∧
    ∃ i : Nat, i ≤ L.length ∧ a.tmps[40]? = some (.int .i64 (i : Int)) ∧ Kept Nix w w' ∧ w'.heap[w.heap.size + 1]? = some (.cells #[.int .i64 r', .int .i64 d', v'] 24 (0, 0)) ∧ w'.heap[w.heap.size + 1 + 1]? = some (.cells #[.int .i64 0, .int .i64 0, .slice none 0 0] 24 (0, 0)) ∧
      ∃ vr us, w'.heap[w.heap.size + 1 + 1 + 1]? = some (.cells #[.int .i64 r, .int .i64 d, vr] 24 (0, 0)) ∧ Rack w.heap.size w' vr us (joinTo L M i)

theorem two_chs {w : World} {ua ub : Value} {A B : List Int} (ha : Sl w ua (ivs A)) (hb : Sl w ub (ivs B)) : Chs (w.alloc (.cells #[ua, ub] 45)) (.slice (some ⟨w.heap.size, 0, none⟩) 2 2) [A, B] := by
  refine ⟨[ua, ub], sl_alloc w [ua, ub] 45 2 rfl (by simp [maxLen]), rfl, fun i hi => ?_⟩
  match i, hi with
  | 0, _ => exact ⟨ua, rfl, ha.nix ((Kept.refl _ _).alloc _)⟩
  | 1, _ => exact ⟨ub, rfl, hb.nix ((Kept.refl _ _).alloc _)⟩

theorem flat_two (A B : List Int) : [A, B].flatten = A ++ B := by simp

set_option maxRecDepth 10000 in
set_option maxHeartbeats 4000000 in
theorem join_good (r d : Int) (v v' : Value) (L M : List (List Int)) (w : World) (h : Chs w v L) (h' : Chs w v' M) (hlen : L.length = M.length) (hl : L.length < 1099511627776) (hr1 : ∀ c ∈ L, c.length ≤ 1000000) (hr2 : ∀ c ∈ M, c.length ≤ 1000000) :
    Calls Try.prog 25 #[.agg #[.int .i64 r, .int .i64 d, v], .agg #[.int .i64 r, .int .i64 d, v']] w fun e w' => ∃ v2 us, e = .returned (.tuple #[.agg #[.int .i64 r, .int .i64 d, v2], .int .i64 0]) ∧ Kept Nix w w' ∧ Rack w.heap.size w' v2 us (joinL L M) := by
  obtain ⟨ao, cap, rfl, _, _, _⟩ := h.open
  obtain ⟨bo, bcap, rfl, _, _, _⟩ := h'.open
  have HCA := Lib.hid h
  have HCB := Lib.hid h'
  have HR1 := Lib.hid hr1
  have HR2 := Lib.hid hr2
  have HLEN := Lib.hid hlen
  obtain ⟨k0, h2, h3, h4, hsz⟩ := join_start w #[.int .i64 r, .int .i64 d, .slice ao L.length cap] #[.int .i64 r, .int .i64 d, .slice bo M.length bcap] _ rfl
  have K0 := Lib.hid k0
  have H2 := Lib.hid h2
  have H3 := Lib.hid h3
  have H4 := Lib.hid h4
  have HSZ := Lib.hid hsz
  have t1 : ((L.length : Int) != (M.length : Int)) = false := by simp [hlen]
  have t2 : (d != d) = false := by simp
  have t3 : (r != r) = false := by simp
  clear k0 h2 h3 h4 hsz h h' hlen hr1 hr2
  go_enter Try.func25, Try.ntmps25
  go_wp2
  have k5 : Kept Nix w ((((w.alloc (.cells #[.int .i64 r, .int .i64 d, .slice ao L.length cap] 24)).alloc (.cells #[.int .i64 r, .int .i64 d, .slice bo M.length bcap] 24)).alloc (.cells #[.int .i64 0, .int .i64 0, .slice none 0 0] 24)).alloc (.cells #[.int .i64 r, .int .i64 d, .slice none 0 0] 24)) := K0.out.alloc _
  have b3 := (Below.heap_alloc _ (.cells #[.int .i64 r, .int .i64 d, .slice none 0 0] 24) _ (lt_of_heap H3.out)).trans H3.out
  have b4 := (Below.heap_alloc _ (.cells #[.int .i64 r, .int .i64 d, .slice none 0 0] 24) _ (lt_of_heap H4.out)).trans H4.out
  have b6 : ((((w.alloc (.cells #[.int .i64 r, .int .i64 d, .slice ao L.length cap] 24)).alloc (.cells #[.int .i64 r, .int .i64 d, .slice bo M.length bcap] 24)).alloc (.cells #[.int .i64 0, .int .i64 0, .slice none 0 0] 24)).alloc (.cells #[.int .i64 r, .int .i64 d, .slice none 0 0] 24)).heap[w.heap.size + 1 + 1 + 1]? = some (.cells #[.int .i64 r, .int .i64 d, .slice none 0 0] 24 (0, 0)) := heap_new (by have := HSZ.out; omega)
  generalize ((((w.alloc (.cells #[.int .i64 r, .int .i64 d, .slice ao L.length cap] 24)).alloc (.cells #[.int .i64 r, .int .i64 d, .slice bo M.length bcap] 24)).alloc (.cells #[.int .i64 0, .int .i64 0, .slice none 0 0] 24)).alloc (.cells #[.int .i64 r, .int .i64 d, .slice none 0 0] 24)) = w0 at *
  refine wp_loop (JoinInv r d r d (.slice ao L.length cap) (.slice bo M.length bcap) L M w) (fun a _ => L.length - (intOf (a.tmps.getD 40 undef)).toNat) ?_ ?_
  · exact ⟨rfl, rfl, rfl, rfl, rfl, rfl, rfl, 0, Nat.zero_le _, rfl, k5, b3, b4, _, [], b6, rack_nil _ _⟩
  · clear k5 b3 b4 b6 K0 H2 H3 H4 HSZ
    rintro ⟨tm, df⟩ w1 ⟨rfl, hs, e3, e4, e6, e38, e39, i, hi, e40, hk, h3, h4, vr, us, h6, hrk⟩
    simp only at hs e3 e4 e6 e38 e39 e40
    obtain ⟨fr, hf, hg⟩ := fr_open hs
    have g3 := hg _ _ e3
    have g4 := hg _ _ e4
    have g6 := hg _ _ e6
    have g38 := hg _ _ e38
    have g39 := hg _ _ e39
    have g40 := hg _ _ e40
    simp only [List.range, List.range.loop, List.map] at hf
    rw [g3, g4, g6, g38, g39, g40] at hf
    clear g3 g4 g6 g38 g39 g40 hg hs e3 e4 e6 e38 e39 e40
    subst hf
    have HK := Lib.hid hk
    have H3 := Lib.hid h3
    have H4 := Lib.hid h4
    have H6 := Lib.hid h6
    have HRK := Lib.hid hrk
    by_cases hlt : i < L.length
    · have hd : decide (i < L.length) = true := decide_eq_true hlt
      obtain ⟨b, off, rfl, hb, A, C, hh⟩ := (HCA.out.nix hk).at (by omega)
      obtain ⟨b', off', rfl, hb', A', C', hh'⟩ := (HCB.out.nix hk).at (by have := HLEN.out; omega)
      obtain ⟨hcell, hsl⟩ := hh i hlt
      obtain ⟨hcell', hsl'⟩ := hh' i (by have := HLEN.out; omega)
      have hi1 : (i : Int) < (L.length : Int) := by omega
      have hi2 : (i : Int) < (M.length : Int) := by have := HLEN.out; omega
      have hA : (L.getD i []).length ≤ 1000000 := by
        simp only [List.getD, List.getElem?_eq_getElem hlt, Option.getD_some]
        exact HR1.out _ (List.getElem_mem hlt)
      have hlt' : i < M.length := by have := HLEN.out; omega
      have hB : (M.getD i []).length ≤ 1000000 := by
        simp only [List.getD, List.getElem?_eq_getElem hlt', Option.getD_some]
        exact HR2.out _ (List.getElem_mem hlt')
      have HI := Lib.hid hlt
      have hps := joinTo_succ L M i
      have HPS := Lib.hid hps
      have hus : us.length = i := HRK.out.2.1.trans (joinTo_len L M i)
      have HB1 := Lib.hid (show us.length + 1 ≤ maxLen by rw [hus]; exact (row_bounds hlt hl).1)
      have HB2 := Lib.hid (show (us.length + 1) * 24 ≤ 140737488355328 by rw [hus]; exact (row_bounds hlt hl).2)
      obtain ⟨vo, vcap, rfl, _, _⟩ := owns_shape hrk.1
      have hfl : [L.getD i [], M.getD i []].flatten.length < 1099511627776 := by rw [flat_two, List.length_append]; omega
      have CO := concat_any _ [L.getD i [], M.getD i []] _ (two_chs (w := w1.drew) (hsl.nix (Kept.refl Nix w1).drew) (hsl'.nix (Kept.refl Nix w1).drew)) (by simp) hfl
      rw [flat_two] at CO
      generalize hpt : L.getD i [] ++ M.getD i [] = pt at *
      generalize (L.getD i []).length = la at *
      generalize (M.getD i []).length = lb at *
      generalize A i = ai at *
      generalize C i = ci at *
      generalize A' i = ai' at *
      generalize C' i = ci' at *
      clear hh hh' hb hb' hi hlt hlt' hk h4 hrk hsl hsl' hps hA hB hfl hus hpt
      have x6 : w1.drew.cell? ⟨w.heap.size + 1 + 1 + 1, 2, none⟩ = some (.slice vo us.length vcap) := (cell_of (w := w1) (i := 2) H6.out).trans rfl
      have x3 : w1.drew.cell? ⟨w.heap.size + 1, 2, none⟩ = some (.slice (some ⟨b', off', none⟩) M.length bcap) := (cell_of (w := w1) (i := 2) H3.out).trans rfl
      have xr : w1.drew.cell? ⟨b', off' + i, none⟩ = some (.slice ai' lb ci') := hcell'
      have y6 : (w1.alloc (.cells #[.slice ai la ci, .slice ai' lb ci'] 45)).drew.cell? ⟨w.heap.size + 1 + 1 + 1, 2, none⟩ = some (.slice vo us.length vcap) := (cell_of (w := w1.alloc (.cells #[.slice ai la ci, .slice ai' lb ci'] 45)) (i := 2) ((Below.heap_alloc _ _ _ (lt_of_heap H6.out)).trans H6.out)).trans rfl
      have KD : Kept Nix w1 (w1.drew.alloc (.cells #[.slice ai la ci, .slice ai' lb ci'] 45)) := ((Kept.refl Nix w1).drew).alloc _
      have MK := Lib.hid (show ∀ wx uo ucap, Kept Nix (w1.drew.alloc (.cells #[.slice ai la ci, .slice ai' lb ci'] 45)) wx → wx.ownsRow (w1.drew.alloc (.cells #[.slice ai la ci, .slice ai' lb ci'] 45)).heap.size 3 1 (.slice uo pt.length ucap) pt.length (ivs pt) →
          (wx.alloc (.cells #[.slice uo pt.length ucap] 45)).ownsRow w.heap.size 45 1 (.slice vo us.length vcap) us.length us ∧ SrcIs (wx.alloc (.cells #[.slice uo pt.length ucap] 45)) 1 (some ⟨wx.heap.size, 0, none⟩) 1 1 [.slice uo pt.length ucap] ∧ w.heap.size ≤ (wx.alloc (.cells #[.slice uo pt.length ucap] 45)).heap.size ∧
          Kept Nix w1 (wx.alloc (.cells #[.slice uo pt.length ucap] 45)) ∧ (wx.alloc (.cells #[.slice uo pt.length ucap] 45)).ownsRow w.heap.size 3 1 (.slice uo pt.length ucap) pt.length (ivs pt) ∧ wx.heap[w.heap.size + 1 + 1 + 1]? = some (.cells #[.int .i64 r, .int .i64 d, .slice vo us.length vcap] 24 (0, 0)) from by
        intro wx uo ucap hkx hou
        have hk3 : Kept Nix w1 wx := nix_trans KD hkx
        refine ⟨(hk3.owns HRK.out.1 (fun _ _ h => h)).alloc _, src_one _ _ _ rfl, ?_, hk3.alloc _, (owns_weak hou (Nat.le_trans HK.out.size KD.size)).alloc _, hk3.heap H6.out id⟩
        rw [World.size_alloc]
        exact Nat.le_trans HK.out.size (Nat.le_trans hk3.size (Nat.le_succ _)))
      have KP := Lib.hid (show ∀ wy w6, Kept Nix w1 wy → wy.grownBy w6 (Value.slice vo us.length vcap).ownBlock → w6.heap[w.heap.size + 1 + 1 + 1]? = some (.cells #[.int .i64 r, .int .i64 d, .slice vo us.length vcap] 24 (0, 0)) from by
        intro wy w6 hy hg6
        have hk2 := hy.heap H6.out id
        refine (hg6.block _ (lt_of_heap hk2) (fun e => ?_)).trans hk2
        obtain ⟨cur', hg'⟩ := owns_type (HRK.out.kept hy).1 e.symm
        rw [hk2] at hg'
        simp at hg')
      have CO' := Lib.hid CO
      clear CO KD h3 h6 hcell'
      go_upto_region 11 with fail
      clear hcell
      refine wp_mono (Q := fun e a' w' => match e with
        | .normal => a'.defers = [] ∧ a'.tmps.size = 60 ∧ a'.tmps[3]? = some (.pointer (some ⟨w.heap.size + 1, 0, none⟩)) ∧ a'.tmps[4]? = some (.pointer (some ⟨w.heap.size + 1 + 1, 0, none⟩)) ∧ a'.tmps[6]? = some (.pointer (some ⟨w.heap.size + 1 + 1 + 1, 0, none⟩)) ∧ a'.tmps[38]? = some (.slice (some ⟨b, off, none⟩) L.length cap) ∧ a'.tmps[39]? = some (.int .i64 (L.length : Int)) ∧ a'.tmps[40]? = some (.int .i64 (i : Int)) ∧
          Kept Nix w w' ∧ w'.heap[w.heap.size + 1]? = some (.cells #[.int .i64 r, .int .i64 d, .slice (some ⟨b', off', none⟩) M.length bcap] 24 (0, 0)) ∧ w'.heap[w.heap.size + 1 + 1]? = some (.cells #[.int .i64 0, .int .i64 0, .slice none 0 0] 24 (0, 0)) ∧ ∃ v' us', w'.heap[w.heap.size + 1 + 1 + 1]? = some (.cells #[.int .i64 r, .int .i64 d, v'] 24 (0, 0)) ∧ Rack w.heap.size w' v' us' (joinTo L M (i + 1))
        | _ => False) ?_ ?_
      · go_region_law (first
          | (go_simp; go_at_call 37; refine CO'.out.mono ?_; rintro e wx ⟨u', rfl, hou, hkx⟩; obtain ⟨uo, ucap, rfl, _, _⟩ := owns_shape hou; obtain ⟨m1, m2, m3, m4, m5, m6⟩ := MK.out wx uo ucap hkx hou; have c7a : wx.cell? ⟨w.heap.size + 1 + 1 + 1, 2, none⟩ = some (.slice vo us.length vcap) := (cell_of (i := 2) m6).trans rfl; have c7b : (wx.alloc (.cells #[.slice uo pt.length ucap] 45)).cell? ⟨w.heap.size + 1 + 1 + 1, 2, none⟩ = some (.slice vo us.length vcap) := (cell_of (i := 2) (m4.heap H6.out id)).trans rfl; have OWN := Lib.hid m1; have SRC := Lib.hid m2; have B3 := Lib.hid m3; have KX := Lib.hid m4; have OU := Lib.hid m5; clear m1 m2 m3 m4 m5 m6 hou hkx)
          | (refine step_app _ rfl (.tmp 46) (.tmp 55) 22 rfl w.heap.size 45 (.slice none 0 0) 1 24 Try.underlying22 info_ints rfl (by decide) (.slice vo us.length vcap) us.length us rfl OWN.out (some ⟨wx.heap.size, 0, none⟩) 1 1 [.slice uo pt.length ucap] rfl SRC.out HB1.out HB2.out B3.out ?_; intro v6 w6 o6 g6 n6; obtain ⟨g', cap', rfl, _⟩ := owns_pos o6 (Nat.succ_pos _); have q9 := KP.out _ _ KX.out g6; have hc9' := cell_of (i := 2) q9; have hf9' := frozen_of (i := 2) q9; have O6 := Lib.hid o6; have G6 := Lib.hid g6; clear q9 o6 g6 n6))
        all_goals
          obtain ⟨s1, s2, s3, s4⟩ := rack_step HK.out H6.out HRK.out KX.out OU.out O6.out G6.out (Nat.le_trans (Nat.le_succ _) (Nat.le_trans (Nat.le_succ _) (Nat.le_succ _)))
          rw [← HPS.out] at s4
          exact ⟨rfl, rfl, rfl, rfl, rfl, rfl, rfl, rfl, s1, s2 _ _ _ (Nat.ne_of_lt (Nat.lt_succ_of_lt (Nat.lt_succ_self _))) (by decide) H3.out, s2 _ _ _ (Nat.ne_of_lt (Nat.lt_succ_self _)) (by decide) H4.out, _, _, s3, s4⟩
      · rintro e ⟨tm, df⟩ w4 hq
        cases e with
        | normal =>
          obtain ⟨rfl, hs, e3, e4, e6, e38, e39, e40, hk4, h34, h44, v4, us4, h64, hrk4⟩ := hq
          simp only at hs e3 e4 e6 e38 e39 e40
          obtain ⟨fr4, hf, hg⟩ := fr_open hs
          have g3 := hg _ _ e3
          have g4 := hg _ _ e4
          have g6 := hg _ _ e6
          have g38 := hg _ _ e38
          have g39 := hg _ _ e39
          have g40 := hg _ _ e40
          simp only [List.range, List.range.loop, List.map] at hf
          rw [g3, g4, g6, g38, g39, g40] at hf
          clear g3 g4 g6 g38 g39 g40 hg hs e3 e4 e6 e38 e39 e40
          subst hf
          have HK4 := Lib.hid hk4
          have H34 := Lib.hid h34
          have H44 := Lib.hid h44
          have H64 := Lib.hid h64
          have HRK4 := Lib.hid hrk4
          clear hk4 h34 h44 h64 hrk4 x6 x3 xr y6
          have hi1' : i < L.length := HI.out
          go_wp2
          refine ⟨⟨rfl, rfl, rfl, rfl, rfl, rfl, rfl, i + 1, HI.out, by simp, HK4.out, H34.out, H44.out, v4, us4, H64.out, HRK4.out⟩, ?_⟩
          have := HI.out
          simp [intOf]
          omega
        | _ => exact hq.elim
    · have hd : decide (i < L.length) = false := decide_eq_false hlt
      have hiL : i = L.length := by omega
      subst hiL
      have hc0 : w1.cell? ⟨w.heap.size + 1 + 1 + 1, 0, none⟩ = some (.int .i64 r) := by rw [cell_of h6]; rfl
      have hc1 : w1.cell? ⟨w.heap.size + 1 + 1 + 1, 1, none⟩ = some (.int .i64 d) := by rw [cell_of h6]; rfl
      obtain ⟨vo, vcap, rfl, _, _⟩ := owns_shape hrk.1
      have hc2 : w1.cell? ⟨w.heap.size + 1 + 1 + 1, 2, none⟩ = some (.slice vo us.length vcap) := by rw [cell_of h6]; rfl
      clear hlt hi hk h3 h4 h6 hrk
      go_wp2_with (first | (refine wpList_store_row rfl 24 _ _ rfl _ _ rfl rfl 24 _ H4.out size_sound rfl (one_sound _ _ _ _ _) ?_))
      refine bodyPost_ret (results_sound1 rfl _ _ (w.heap.size + 1 + 1) _ 0 rfl (heap_row _ H4.out) rfl rfl) rfl ⟨_, us, rfl, HK.out.setRow (.inr (Nat.le_trans (Nat.le_succ _) (Nat.le_succ _))) _, ?_⟩
      refine HRK.out.other (Kept.setRow (S := One (w.heap.size + 1 + 1)) (Kept.refl _ _) (.inl rfl) _) (fun k cur t hk' hh => ?_)
      have hk'' : k = w.heap.size + 1 + 1 := hk'
      subst hk''
      rw [H4.out] at hh
      cases hh
      exact ⟨by decide, by decide⟩

end Go.Proofs.Ytpiongdkfebchaa
