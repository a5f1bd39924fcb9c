/- Package section: Take. -/
import Derived.Test.YtlbnjclchmnomaaSecTakeB
import Derived.Test.YtlbnjclchmnomaaPk20
import Derived.Test.YtlbnjclchmnomaaSecPutW
namespace Go.Proofs.Ytlbnjclchmnomaa
open Go.RowKit Go.Shelf Bx
attribute [local go_sem] Oper.semAt_some

def STakePost (base q : Nat) (v : Value) (B : List Nat) (w : World) (T : ST) (e : Ending) (w' : World) : Prop :=
  ∃ u uv, e = .returned (.tuple #[u, .agg #[.bool T.wd, .int .i64 (T.o : Int), uv], .int .i64 (T.e : Int)]) ∧ RdPost base w q v B T.a T.f w' ∧ w'.ownsRow w.heap.size 3 1 u T.ls.length (ivs T.ls) ∧ w'.ownsRow w.heap.size 50 2 uv T.ps.length (pcs T.ps)

/-- A section that can't be taken. -/
def badST (a f e : Nat) : ST := ⟨false, 0, [], [], a, f, e⟩

theorem sk_tests {block order : Int} (h : skE block order = true) : decide (order < 0) = true ∨ (decide (order < 0) = false ∧ decide (32 < order) = true) ∨ (decide (order < 0) = false ∧ decide (32 < order) = false ∧ decide (block ≤ order) = true) ∨ (decide (order < 0) = false ∧ decide (32 < order) = false ∧ decide (block ≤ order) = false ∧ decide (65535 < block) = true) := by
  simp only [skE, Bool.or_eq_true, decide_eq_true_eq] at h
  simp only [decide_eq_true_eq, decide_eq_false_iff_not]
  omega
theorem sk_good {block order : Int} (h : skE block order = false) : decide (order < 0) = false ∧ decide (32 < order) = false ∧ decide (block ≤ order) = false ∧ decide (65535 < block) = false := by
  simp only [skE, Bool.or_eq_false_iff, decide_eq_false_iff_not] at h
  simp only [decide_eq_false_iff_not]
  omega

theorem results_tpt {fn : Func} {p u x : Tmp} (h : fn.results = #[.tmp u, .cell p 25, .tmp x]) (tmps : Array Value) (w : World) (g : Nat) (cs : Array Value) (y z : Value)
    (hu : tmps.getD u undef = y) (hp : tmps.getD p undef = .pointer (some ⟨g, 0, none⟩)) (hg : w.heap[g]? = some (.cells cs 25 (0, 0))) (hc : cs.size = 3) (hx : tmps.getD x undef = z) :
    (results fn tmps).run Try.prog w = .ok (.tuple #[y, .agg cs, z]) w := by
  have h1 := run_loadVar_row (P := Try.prog) w g 25 25 cs (0, 0) _ hg Try.underlying25 rfl (by rw [hc]; exact size_plan)
  simp only [Array.getD_eq_getD_getElem?] at hp hu hx
  simp only [results, h]
  simp [hp, asAddr, h1, hu, hx, Result.andThen]

theorem stk_start (w : World) (q : Nat) : ∀ w1, w1 = (w.alloc (.cells #[.pointer (some ⟨q, 0, none⟩)] 35)).alloc (.cells #[.bool false, .int .i64 0, .slice none 0 0] 25) →
    w1.heap[w.heap.size]? = some (.cells #[.pointer (some ⟨q, 0, none⟩)] 35 (0, 0)) ∧ w1.heap[w.heap.size + 1]? = some (.cells #[.bool false, .int .i64 0, .slice none 0 0] 25 (0, 0)) ∧ Kept Nix w w1 ∧ w1.heap.size = w.heap.size + 2 := by
  rintro w1 rfl
  exact ⟨(Below.heap_alloc _ _ _ (by simp)).trans (heap_alloc_new _ _), heap_new (by simp), ((Kept.refl _ w).alloc _).alloc _, by simp⟩

theorem stk_bad {base q : Nat} {v : Value} {B : List Nat} {w w' : World} {a f e : Nat} {E : Int} (hE : (e : Int) = E) (h : RdPost base w q v B a f w') : STakePost base q v B w (badST a f e) (.returned (.tuple #[.slice none 0 0, .agg #[.bool false, .int .i64 0, .slice none 0 0], .int .i64 E])) w' := by
  subst hE
  exact ⟨_, _, rfl, h, World.ownsRow_nil _ _ _ _, World.ownsRow_nil _ _ _ _⟩

/-- A plan that is stored into a result, and a number that is read ahead of that or behind. -/
theorem res_store (W : World) (g k : Nat) (hne : k ≠ g) {x x' : Bool} {y y' z : Int} {u u' : Value} {t : TypeId} (h : W.heap[g]? = some (.cells #[.bool x, .int .i64 y, u] t (0, 0))) {t2 : TypeId} (h2 : W.heap[k]? = some (.cells #[.int .i64 z] t2 (0, 0))) :
    W.drew.cell? ⟨g, 0, none⟩ = some (.bool x) ∧ W.drew.cell? ⟨g, 1, none⟩ = some (.int .i64 y) ∧ W.drew.cell? ⟨g, 2, none⟩ = some u ∧ W.drew.frozen? ⟨g, 0, none⟩ = false ∧ W.drew.frozen? ⟨g, 1, none⟩ = false ∧ W.drew.frozen? ⟨g, 2, none⟩ = false ∧
    (W.setCell ⟨g, 0, none⟩ (.bool x')).drew.cell? ⟨g, 1, none⟩ = some (.int .i64 y) ∧ ((W.setCell ⟨g, 0, none⟩ (.bool x')).setCell ⟨g, 1, none⟩ (.int .i64 y')).drew.cell? ⟨g, 2, none⟩ = some u ∧
    (W.setCell ⟨g, 0, none⟩ (.bool x')).drew.frozen? ⟨g, 1, none⟩ = false ∧ ((W.setCell ⟨g, 0, none⟩ (.bool x')).setCell ⟨g, 1, none⟩ (.int .i64 y')).drew.frozen? ⟨g, 2, none⟩ = false ∧
    W.drew.cell? ⟨k, 0, none⟩ = some (.int .i64 z) ∧ (((W.setCell ⟨g, 0, none⟩ (.bool x')).setCell ⟨g, 1, none⟩ (.int .i64 y')).setCell ⟨g, 2, none⟩ u').drew.cell? ⟨k, 0, none⟩ = some (.int .i64 z) ∧
    (((W.setCell ⟨g, 0, none⟩ (.bool x')).setCell ⟨g, 1, none⟩ (.int .i64 y')).setCell ⟨g, 2, none⟩ u').drew.heap[g]? = some (.cells #[.bool x', .int .i64 y', u'] t (0, 0)) ∧
    Kept (One g) W (((W.setCell ⟨g, 0, none⟩ (.bool x')).setCell ⟨g, 1, none⟩ (.int .i64 y')).setCell ⟨g, 2, none⟩ u').drew := by
  have s1 : (W.setCell ⟨g, 0, none⟩ (.bool x')).heap[g]? = some (.cells #[.bool x', .int .i64 y, u] t (0, 0)) := heap_set h
  have s2 : ((W.setCell ⟨g, 0, none⟩ (.bool x')).setCell ⟨g, 1, none⟩ (.int .i64 y')).heap[g]? = some (.cells #[.bool x', .int .i64 y', u] t (0, 0)) := heap_set s1
  have s3 : (((W.setCell ⟨g, 0, none⟩ (.bool x')).setCell ⟨g, 1, none⟩ (.int .i64 y')).setCell ⟨g, 2, none⟩ u').heap[g]? = some (.cells #[.bool x', .int .i64 y', u'] t (0, 0)) := heap_set s2
  have k3 : Kept (One g) W ((((W.setCell ⟨g, 0, none⟩ (.bool x')).setCell ⟨g, 1, none⟩ (.int .i64 y')).setCell ⟨g, 2, none⟩ u').drew) :=
    ((((Kept.refl (One g) W).setCell (p := ⟨g, 0, none⟩) (.inl rfl) _).setCell (p := ⟨g, 1, none⟩) (.inl rfl) _).setCell (p := ⟨g, 2, none⟩) (.inl rfl) _).drew
  refine ⟨(cell_of (w := W) h).trans rfl, (cell_of (w := W) h).trans rfl, (cell_of (w := W) h).trans rfl, frozen_of (w := W) h, frozen_of (w := W) h, frozen_of (w := W) h, (cell_of s1).trans rfl, (cell_of s2).trans rfl, frozen_of s1, frozen_of s2, (cell_of (w := W) h2).trans rfl, ?_, s3, k3⟩
  exact (cell_of (k3.heap h2 (fun e => hne e))).trans rfl

/-- Behind the last statement ahead of the return. -/
def STkEnd (D g7 : Nat) (u : Value) (e : Int) (W : World) : Exit → Act → World → Prop
  | .normal, a, w => a.defers = [{ target := .collected D, args := #[] }] ∧ a.tmps.getD 6 undef = u ∧ a.tmps.getD 7 undef = .pointer (some ⟨g7, 0, none⟩) ∧ a.tmps.getD 8 undef = .int .i64 e ∧ w = W
  | _, _, _ => False

theorem win_at {gl n z c : Nat} (hc : 1 ≤ c) (h : z + c ≤ n) : winV (some ⟨gl, 0, none⟩) n z (z + c) = .slice (some ⟨gl, z, none⟩) c (n - z) := by
  unfold winV
  rw [if_neg (by omega), Nat.add_sub_cancel_left]
  simp [Addr.add_lit]

theorem ptFold_len {B : List Nat} {wd : Bool} {C : List Nat} : ∀ (is : List Nat) (s : PT), (ptFold B wd C s is).e = 0 → (ptFold B wd C s is).ps.length = s.ps.length + is.length
  | [], s, _ => rfl
  | i :: is, s, h => by
    have h0 : s.e = 0 := by
      by_cases h0 : s.e = 0
      · exact h0
      · rw [ptFold_stuck h0] at h; exact h
    have h1 := ptFold_len is (ptNext B wd C s i) h
    show (ptFold B wd C (ptNext B wd C s i) is).ps.length = _
    rw [h1, ptNext_go h0]
    simp
    omega

theorem stkAt_ownFrom {base q : Nat} {v : Value} {B : List Nat} {wd : Bool} {o n g9 g10 gl : Nat} {w6 : World} {β : Type} {s : β → PT} : OwnFrom w6.heap.size (fun (b : β) W => STkAt base q v B wd o n g9 g10 gl w6 (s b) W) :=
  fun b W W' row hs hg hr => by
    obtain ⟨h1, h2, h3, h4, h5, h6, uv, h7, h8⟩ := hs
    exact ⟨h1, h2, kept_ownFrom (β := Unit) (Nat.le_refl _) () W W' row h3 hg hr, Rd.ownFrom (β := Unit) (a := fun _ => (s b).a) (f := fun _ => (s b).f) () W W' row h4 hg hr, heap_ownFrom (β := Unit) () W W' row h5 hg hr, heap_ownFrom (β := Unit) () W W' row h6 hg hr, uv,
      heap_ownFrom (β := Unit) () W W' row h7 hg hr, owns_row h8 hg (fun k hk => (hr k hk).2)⟩

theorem stkOut_ownFrom {base q : Nat} {v : Value} {B : List Nat} {g9 g10 gl : Nat} {w6 : World} {β : Type} {s : β → PT} : OwnFrom w6.heap.size (fun (b : β) W => STkOut base q v B g9 g10 gl w6 (s b) W) :=
  fun b W W' row hs hg hr => by
    obtain ⟨h1, h3, h4, h6⟩ := hs
    exact ⟨h1, kept_ownFrom (β := Unit) (Nat.le_refl _) () W W' row h3 hg hr, Rd.ownFrom (β := Unit) (a := fun _ => (s b).a) (f := fun _ => (s b).f) () W W' row h4 hg hr, heap_ownFrom (β := Unit) () W W' row h6 hg hr⟩

theorem nix_one {q : Nat} {a b : World} (h : Kept Nix a b) : Kept (One q) a b := h.mono (fun _ h => absurd h id)

theorem two_cells (w : World) (x : Bool) (y z : Int) : ∀ w3, w3 = (w.alloc (.cells #[.bool x, .int .i64 y, .slice none 0 0] 25)).alloc (.cells #[.int .i64 z] 31) →
    w3.heap[w.heap.size]? = some (.cells #[.bool x, .int .i64 y, .slice none 0 0] 25 (0, 0)) ∧ w3.heap[w.heap.size + 1]? = some (.cells #[.int .i64 z] 31 (0, 0)) ∧ Kept Nix w w3 ∧ w3.heap.size = w.heap.size + 2 := by
  rintro w3 rfl
  exact ⟨(Below.heap_alloc _ _ _ (by simp)).trans (heap_alloc_new _ _), heap_new (by simp), ((Kept.refl _ w).alloc _).alloc _, by simp⟩

set_option maxRecDepth 10000 in
set_option maxHeartbeats 4000000 in
theorem stake_any (base q : Nat) (v : Value) (B : List Nat) (a f : Nat) (block order : Int) (w : World) (h : Rd base w q v B a f) (hl : 8 * B.length < 8589934592) :
    Calls Try.prog 14 #[.pointer (some ⟨q, 0, none⟩), .int .i64 block, .int .i64 order] w (STakePost base q v B w (tkSec B a f block order)) := by
  obtain ⟨b3, b7, k1, sz1⟩ := stk_start w q _ rfl
  have B3 := Lib.hid b3
  have B7 := Lib.hid b7
  have K1 := Lib.hid k1
  have SZ1 := Lib.hid sz1
  have HR := Lib.hid h
  have R1 := Lib.hid (h.kept k1 (fun h => h) (fun _ _ h => h))
  cases hsk : skE block order with
  | true =>
    have hT : tkSec B a f block order = badST a f 1 := by unfold tkSec; rw [if_pos hsk]; rfl
    rw [hT]
    have tt := sk_tests hsk
    have FIN := Lib.hid (fun w' (h : RdPost base w q v B a f w') => stk_bad (e := 1) (E := 1) rfl h)
    have HNQ := Lib.hid (show q ≠ w.heap.size + 1 ∧ ∀ b, v.ownBlock = some b → b ≠ w.heap.size + 1 from ⟨by have := h.lt; omega, fun b hb => by have := (h.own hb).2; omega⟩)
    clear hsk hT h b3 b7 k1 sz1 hl
    rcases tt with t1 | ⟨t1, t2⟩ | ⟨t1, t2, t3⟩ | ⟨t1, t2, t3, t4⟩
    all_goals
      go_enter Try.func14, Try.ntmps14
      go_upto_region 1 with fail
      generalize (w.alloc (.cells #[.pointer (some ⟨q, 0, none⟩)] 35)).alloc (.cells #[.bool false, .int .i64 0, .slice none 0 0] 25) = w1 at *
      go_step3
      go_wp2_with (refine wpList_store_row rfl 25 _ _ rfl _ _ rfl rfl 25 _ B7.out size_plan rfl (one_plan _ _ _ _ _) ?_)
      try rw [Exit.noGoto_ret]
      exact bodyPost_ret (results_tpt rfl _ _ (w.heap.size + 1) _ (.slice none 0 0) (.int .i64 1) rfl rfl (heap_row _ B7.out) rfl rfl) rfl (FIN.out _ ⟨R1.out.kept ((Kept.refl (One (w.heap.size + 1)) w1).setRow (.inl rfl) _) HNQ.out.1 HNQ.out.2, (K1.out.mono (fun _ h => absurd h id)).setRow (.inr (by omega)) _⟩)
  | false =>
    obtain ⟨t1, t2, t3, t4⟩ := sk_good hsk
    have HSK := Lib.hid hsk
    have TA := Lib.hid (tahead_any base q v B a f _ R1.out hl)
    have HNQ := Lib.hid (show ∀ g, w.heap.size ≤ g → q ≠ g ∧ ∀ b, v.ownBlock = some b → b ≠ g from fun g hg => ⟨by have := h.lt; omega, fun b hb => by have := (h.own hb).2; omega⟩)
    clear hsk h b3 b7 k1 sz1
    obtain ⟨T, hT⟩ : ∃ T, tkAhead B a f = T := ⟨_, rfl⟩
    have HT := Lib.hid hT
    rw [hT] at TA
    clear hT
    obtain ⟨wd, o, a1, f1, e1⟩ := T
    simp only at TA
    by_cases he1 : e1 = 0
    · subst he1
      obtain ⟨K, rfl⟩ : ∃ K : Nat, order = (K : Int) := ⟨order.toNat, by have := of_decide_eq_false t1; omega⟩
      obtain ⟨n, hn⟩ : ∃ n : Nat, block = ((n + K : Nat) : Int) := ⟨(block - (K : Int)).toNat, by have := of_decide_eq_false t3; omega⟩
      have hn1 : 1 ≤ n ∧ n ≤ 65535 := by have h3 := of_decide_eq_false t3; have h4 := of_decide_eq_false t4; omega
      subst hn
      have hnk : wrap64 (((n + K : Nat) : Int) - (K : Int)) = (n : Int) := by rw [w64_in _ (by omega)]; omega
      have HN := Lib.hid hn1
      have te : (((0 : Nat) : Int) != 0) = false := rfl
      have CU := Lib.hid (fun w' => pcuts_any n (K : Int) (o : Int) w' (by omega) (by have := of_decide_eq_false t2; omega))
      unfold CutsPost at CU
      rw [ctI_nat] at CU
      have HS : ∀ X, tkSec B a f ((n + K : Nat) : Int) (K : Int) = X ↔ (if cutOk n K o = false then badST a1 f1 5 else
          if (ptFold B wd (cts n K o) (pts0 n a1 f1) (List.range (cts n K o).length)).e ≠ 0 then badST (ptFold B wd (cts n K o) (pts0 n a1 f1) (List.range (cts n K o).length)).a (ptFold B wd (cts n K o) (pts0 n a1 f1) (List.range (cts n K o).length)).f (ptFold B wd (cts n K o) (pts0 n a1 f1) (List.range (cts n K o).length)).e
          else ⟨wd, o, (ptFold B wd (cts n K o) (pts0 n a1 f1) (List.range (cts n K o).length)).ls, (ptFold B wd (cts n K o) (pts0 n a1 f1) (List.range (cts n K o).length)).ps, (ptFold B wd (cts n K o) (pts0 n a1 f1) (List.range (cts n K o).length)).a, (ptFold B wd (cts n K o) (pts0 n a1 f1) (List.range (cts n K o).length)).f, 0⟩) = X := by
        intro X
        unfold tkSec
        rw [if_neg (by rw [HSK.out]; simp), HT.out, if_neg (by simp)]
        simp only [show (((n + K : Nat) : Int) - (K : Int)).toNat = n by omega, Int.toNat_natCast]
        rfl
      cases hco : cutOk n K o with
      | false =>
        have hTT : tkSec B a f ((n + K : Nat) : Int) (K : Int) = badST a1 f1 5 := (HS _).2 (by rw [hco]; rfl)
        rw [hTT]
        have FIN := Lib.hid (fun w' (h : RdPost base w q v B a1 f1 w') => stk_bad (e := 5) (E := 5) rfl h)
        rw [cts_none hco] at CU
        clear hTT hl HS HT HSK hn1 hco
        generalize ((n + K : Nat) : Int) = bk at *
        go_enter Try.func14, Try.ntmps14
        go_upto_region 1 with fail
        generalize (w.alloc (.cells #[.pointer (some ⟨q, 0, none⟩)] 35)).alloc (.cells #[.bool false, .int .i64 0, .slice none 0 0] 25) = w1 at *
        have x3 : w1.cell? ⟨w.heap.size, 0, none⟩ = some (.pointer (some ⟨q, 0, none⟩)) := by rw [cell_of B3.out]; rfl
        go_step3
        go_upto_region 6 with (first
          | (go_at_call 32; refine TA.out.mono ?_; rintro e w2 ⟨rfl, p2⟩))
        obtain ⟨a9, a10, a11, a12⟩ := two_cells w2 wd (o : Int) ((0 : Nat) : Int) _ rfl
        have S2 := Lib.hid p2.2.size
        have B72 := Lib.hid (p2.2.heap B7.out (fun h => by have := (HNQ.out (w.heap.size + 1) (by omega)).1; have h : w.heap.size + 1 = q := h; omega))
        generalize (w2.alloc (.cells #[.bool wd, .int .i64 (o : Int), .slice none 0 0] 25)).alloc (.cells #[.int .i64 ((0 : Nat) : Int)] 31) = w3 at *
        have y1 := (cells_three a9).2.1
        have R3 := Lib.hid (p2.1.kept a11 (fun h => h) (fun _ _ h => h))
        have K3 := Lib.hid (show Kept (One q) w w3 from (nix_one K1.out).trans (p2.2.trans (nix_one a11) (fun _ h => h) (fun _ _ h => h)) (fun _ h => h) (fun _ _ h => h))
        have B73 := Lib.hid (a11.heap B72.out id)
        clear a9 a10 a11 p2 x3
        go_wp2_with (first
          | (go_at_call 23; refine (CU.out _).mono ?_; rintro e w4 ⟨cv, rfl, o4, k4⟩; obtain ⟨co, cc, rfl, -⟩ := owns_shape o4; have B74 := Lib.hid (k4.heap B73.out id); have R4 := Lib.hid (R3.out.kept k4 (fun h => h) (fun _ _ h => h)); have K4 := Lib.hid (K3.out.trans (nix_one k4) (fun _ h => h) (fun _ _ h => h)); clear o4 k4)
          | (refine wpList_store_row rfl 25 _ _ rfl _ _ rfl rfl 25 _ B74.out size_plan rfl (one_plan _ _ _ _ _) ?_))
        try rw [Exit.noGoto_ret]
        exact bodyPost_ret (results_tpt rfl _ _ (w.heap.size + 1) _ (.slice none 0 0) (.int .i64 5) rfl rfl (heap_row _ B74.out) rfl rfl) rfl (FIN.out _ ⟨R4.out.kept ((Kept.refl (One (w.heap.size + 1)) w4).setRow (.inl rfl) _) (HNQ.out _ (by omega)).1 (HNQ.out _ (by omega)).2, K4.out.setRow (.inr (by omega)) _⟩)
      | true =>
        obtain ⟨s, hs⟩ : ∃ s, ptFold B wd (cts n K o) (pts0 n a1 f1) (List.range (cts n K o).length) = s := ⟨_, rfl⟩
        have HFO := Lib.hid hs
        have hTT := (HS _).1 rfl
        rw [hco, if_neg (by simp), hs] at hTT
        obtain ⟨TT, hT2⟩ : ∃ TT, tkSec B a f ((n + K : Nat) : Int) (K : Int) = TT := ⟨_, rfl⟩
        rw [hT2] at hTT ⊢
        have HTT := Lib.hid hTT
        clear hT2
        have HCO := Lib.hid hco
        have HCS := Lib.hid (cts_sum hco)
        have HCL := Lib.hid (cts_length_le n K o)
        have HC0 := Lib.hid (show ∀ i, i < (cts n K o).length → 1 ≤ (cts n K o).getD i 0 from fun i hi => by
          rw [cts_length hco] at hi
          rw [cts_get hco hi]
          have := (cut_block hco).2
          split <;> omega)
        clear hTT HS HT HSK hn1 hs hco
        have hmk := make_int n (by have := HN.out; omega)
        have hC1 : 1 ≤ (cts n K o).length := by have := (cts_length HCO.out); have := Nat.two_pow_pos o; omega
        have tC : (((cts n K o).length : Int) == 0) = false := by rw [beq_eq_false_iff_ne]; omega
        generalize ((n + K : Nat) : Int) = bk at *
        generalize hCC : cts n K o = C at *
        have TP := Lib.hid (fun a f w' (h : Rd base w' q v B a f) => tpart_any base q v B a f wd w' h hl)
        have HL8 := Lib.hid hl
        clear hl hCC hC1
        refine (callsIn_wide (n := 3)).1 ?_
        refine callsIn_of_wp_marks Try.func14 rfl trivial ?_ rfl
        simp only [Try.ntmps14, List.size_toArray, List.length_cons, List.length_nil, Nat.reduceAdd, Nat.reduceSub, Array.replicate_succ, Array.replicate_zero, List.push_toArray, List.append_toArray, List.nil_append, List.cons_append]
        refine wpIn_wide.2 ?_
        go_upto_region 1 with fail
        generalize (w.alloc (.cells #[.pointer (some ⟨q, 0, none⟩)] 35)).alloc (.cells #[.bool false, .int .i64 0, .slice none 0 0] 25) = w1 at *
        have x3 : w1.cell? ⟨w.heap.size, 0, none⟩ = some (.pointer (some ⟨q, 0, none⟩)) := by rw [cell_of B3.out]; rfl
        go_step3
        go_upto_region 6 with (first
          | (go_at_call 32; refine TA.out.mono ?_; rintro e w2 ⟨rfl, p2⟩))
        obtain ⟨a9, a10, a11, a12⟩ := two_cells w2 wd (o : Int) ((0 : Nat) : Int) _ rfl
        have S2 := Lib.hid p2.2.size
        have B72 := Lib.hid (p2.2.heap B7.out (fun h => by have := (HNQ.out (w.heap.size + 1) (by omega)).1; have h : w.heap.size + 1 = q := h; omega))
        have B32 := Lib.hid (p2.2.heap B3.out (fun h => by have := (HNQ.out w.heap.size (by omega)).1; have h : w.heap.size = q := h; omega))
        generalize (w2.alloc (.cells #[.bool wd, .int .i64 (o : Int), .slice none 0 0] 25)).alloc (.cells #[.int .i64 ((0 : Nat) : Int)] 31) = w3 at *
        have y1 := (cells_three a9).2.1
        have R3 := Lib.hid (p2.1.kept a11 (fun h => h) (fun _ _ h => h))
        have K3 := Lib.hid (show Kept (One q) w w3 from (nix_one K1.out).trans (p2.2.trans (nix_one a11) (fun _ h => h) (fun _ _ h => h)) (fun _ h => h) (fun _ _ h => h))
        have B73 := Lib.hid (a11.heap B72.out id)
        have B33 := Lib.hid (a11.heap B32.out id)
        have A9 := Lib.hid a9
        have A10 := Lib.hid a10
        have SZ3 := Lib.hid a12
        clear a9 a10 a11 a12 p2 x3
        go_upto_region 9 with (first
          | (go_at_call 23; refine (CU.out _).mono ?_; rintro e w4 ⟨cv, rfl, o4, k4⟩; obtain ⟨co, cc, rfl, -⟩ := owns_shape o4; have O4 := Lib.hid o4; have K34 := Lib.hid k4; clear o4 k4))
        clear y1
        have B74 := Lib.hid (K34.out.heap B73.out id)
        have B34 := Lib.hid (K34.out.heap B33.out id)
        have A94 := Lib.hid (K34.out.heap A9.out id)
        have A104 := Lib.hid (K34.out.heap A10.out id)
        have R4 := Lib.hid (R3.out.kept K34.out (fun h => h) (fun _ _ h => h))
        have K4 := Lib.hid (K3.out.trans (nix_one K34.out) (fun _ h => h) (fun _ _ h => h))
        have S34 := Lib.hid K34.out.size
        clear B73 B33 A9 A10 R3 K3 B72 B32 TA CU B3 B7 R1 HR
        go_wp2
        go_step3
        go_wp2_with (first
          | (go_at_call 26; refine (pieces_any _ _ _ _ _ _ _).mono ?_; rintro e w' ⟨rfl, rfl⟩))
        obtain ⟨g9, hg9⟩ : ∃ g9, w2.heap.size = g9 := ⟨_, rfl⟩
        obtain ⟨gl, hgl⟩ : ∃ gl, w4.heap.size = gl := ⟨_, rfl⟩
        obtain ⟨bl, bc, k56, sz6⟩ := two_ints (w4.alloc (.cells (ivs (List.replicate n 0)).toArray 3)) (some ⟨w4.heap.size, 0, none⟩) n n co C.length cc _ rfl
        have hl5 : (w4.alloc (.cells (ivs (List.replicate n 0)).toArray 3)).heap.size = w4.heap.size + 1 := by simp
        have kl5 : Kept Nix w4 (w4.alloc (.cells (ivs (List.replicate n 0)).toArray 3)) := (Kept.refl _ _).alloc _
        have hgl5 := heap_alloc_new w4 (.cells (ivs (List.replicate n 0)).toArray 3)
        generalize w4.alloc (.cells (ivs (List.replicate n 0)).toArray 3) = w5 at *
        generalize (w5.alloc (.cells #[.slice (some ⟨w4.heap.size, 0, none⟩) n n] 22)).alloc (.cells #[.slice co C.length cc] 22) = w6 at *
        rw [hl5, hgl] at bl bc
        have k46 := nix_trans kl5 k56
        have HB3 := Lib.hid (k46.heap B34.out id)
        have HB7 := Lib.hid (k46.heap B74.out id)
        have HB9 := Lib.hid (k46.heap A94.out id)
        have HB10 := Lib.hid (k46.heap A104.out id)
        have HBL := Lib.hid (k56.heap hgl5 id)
        have R6 := Lib.hid (R4.out.kept k46 (fun h => h) (fun _ _ h => h))
        have K6 := Lib.hid (K4.out.trans (nix_one k46) (fun _ h => h) (fun _ _ h => h))
        have HCV := Lib.hid ((sl_of_owns O4.out).nix k46)
        have ORD := Lib.hid (show w.heap.size + 2 ≤ g9 ∧ g9 + 2 ≤ gl ∧ w6.heap.size = gl + 3 ∧ (∀ g, Own (.slice co C.length cc) g → g9 + 2 ≤ g ∧ g < gl) from by
          have h1 := S2.out; have h2 := S34.out; have h3 := SZ1.out; have h4 := SZ3.out
          refine ⟨by omega, by omega, by omega, fun g hg => ?_⟩
          have := O4.out.lt g hg
          omega)
        rw [hgl] at HBL
        rw [hg9] at HB9 HB10
        rw [hgl, hg9]
        clear B74 B34 A94 A104 R4 K4 S34 S2 SZ3 O4 K34 hl5 kl5 hgl5 k56 hgl hg9 k46 sz6
        have ORD2 := ORD.out
        have HQL := Lib.hid (show q < w6.heap.size ∧ ∀ b, v.ownBlock = some b → b < w6.heap.size from ⟨R6.out.lt, fun b hb => (R6.out.own hb).2⟩)
        have HNW := Lib.hid (show q < w.heap.size ∧ ∀ b, v.ownBlock = some b → b < w.heap.size from ⟨by
          refine Nat.lt_of_not_le (fun h => (HNQ.out q h).1 rfl), fun b hb => Nat.lt_of_not_le (fun h => (HNQ.out b h).2 b hb rfl)⟩)
        have SLT : ∀ k, (k = gl + 1 + 1 ∨ k = gl + 1 ∨ Own (.slice co C.length cc) k) → k < w6.heap.size ∧ ¬ TkT q g9 (g9 + 1) gl k := fun k hk => by
          have hw := HNW.out.1
          rcases hk with rfl | rfl | hk
          · exact ⟨by omega, fun h => by rcases h with h | h | h | h <;> omega⟩
          · exact ⟨by omega, fun h => by rcases h with h | h | h | h <;> omega⟩
          · have := ORD2.2.2.2 k hk
            exact ⟨by omega, fun h => by rcases h with h | h | h | h <;> omega⟩
        refine (wpIn_wide (n := 3)).1 ?_
        refine wpIn_rangeFunc_ownH (F := Fence.wide) rfl (by omega) (gf := 46) (lb := #[.pointer (some ⟨gl + 1 + 1, 0, none⟩), .pointer (some ⟨gl + 1, 0, none⟩)]) rfl trivial (enters_of Try.func46 (by kernel_rfl) rfl)
          (pieces_stops _ C (some ⟨gl, 0, none⟩) n n co cc (gl + 1 + 1) (gl + 1) (fun k => k = gl + 1 + 1 ∨ k = gl + 1 ∨ Own (.slice co C.length cc) k) w6 bc bl
            (fun W hW => HCV.out.sameOwn (fun g hg => hW g (.inr (.inr hg)))) (.inl rfl) (.inr (.inl rfl)) (fun k hk => (SLT k hk).1) (by have := HCS.out; omega) (by have := HN.out; simp only [maxLen]; omega)) keepsAll_t (keepsAll_b (fun k hk => (SLT k hk).1)) (Below.refl _ _) (fun _ => rfl)
          (fun pre W => STkAt base q v B wd o n g9 (g9 + 1) gl w6 (ptFold B wd C (pts0 n a1 f1) (pre.map (fun x => x.val))) W)
          (fun c pre W => STkOut base q v B g9 (g9 + 1) gl w6 (ptFold B wd C (pts0 n a1 f1) (pre.map (fun x => x.val))) W ∧ c = .exit 0)
          stkAt_ownFrom (fun c => OwnFrom.and stkOut_ownFrom (ownFrom_pure _ _))
          ⟨rfl, by simp [ptFold, pts0], Kept.refl _ _, R6.out, HBL.out, HB10.out, _, HB9.out, World.ownsRow_nil _ _ _ _⟩
          (fun x a' _ => a'.defers = [] ∧ a'.tmps.size = 98 ∧ a'.tmps[3]? = some (.pointer (some ⟨w.heap.size, 0, none⟩)) ∧ a'.tmps[9]? = some (.pointer (some ⟨g9, 0, none⟩)) ∧ a'.tmps[10]? = some (.pointer (some ⟨g9 + 1, 0, none⟩)) ∧ a'.tmps[14]? = some (winV (some ⟨gl, 0, none⟩) n (C.take x.val).sum (C.take (x.val + 1)).sum))
          (fun x a' => ownFrom_pure _ (fun _ => _))
          ?assign ?body ?done ?stop
        case assign =>
          rintro l pre x W K hi hK
          simp only [wenc]
          gi_wp2
          exact hK _ _ (KeepsFrom.refl _ _) (fun _ _ => rfl) hi ⟨rfl, rfl, rfl, rfl, rfl, rfl⟩
        case body =>
          rintro l pre x a' W hl0 _ hat ⟨hd, hs, e3, e9, e10, e14⟩ hlen
          have hxl := x.isLt
          have hc1 := HC0.out x.val hxl
          have hsn := sum_next C x.val hxl
          have hsl := sum_take_le C (x.val + 1)
          have hcs := HCS.out
          have hn2 := HN.out
          rw [hsn, win_at hc1 (by omega)] at e14
          have hpl := ptFold_len (B := B) (wd := wd) (C := C) (pre.map (fun x => x.val)) (pts0 n a1 f1) hat.1
          have hw := HNW.out.1
          have HFS := ptFold_snoc B wd C (pts0 n a1 f1) (pre.map (fun x => x.val)) x.val
          rw [show pre.map (fun x => x.val) ++ [x.val] = (pre ++ [x]).map (fun x => x.val) by simp] at HFS
          refine stk_body l base q v B wd o n C w.heap.size g9 (g9 + 1) gl w6 (ptFold B wd C (pts0 n a1 f1) (pre.map (fun x => x.val))) x.val W a' _ hd hs e3 e9 e10 e14 hat HL8.out (by rw [hpl]; simp [pts0]; have := HCL.out; omega) HB3.out ⟨HB9.out, ⟨_, HB10.out⟩, ⟨_, HBL.out⟩⟩ (by omega) HQL.out.1 (fun b hb => by have h1 := HNW.out.2 b hb; have h2 := HQL.out.2 b hb; exact ⟨h2, by omega, by omega, by omega⟩) (by omega) (by omega) ?_ ?_
          · intro a2 W2 h2 hk2
            rw [← HFS] at h2
            refine ⟨hk2, fun k hk => ?_, h2⟩
            have h3 := SLT k hk
            rw [h2.2.2.1.block k h3.1 h3.2, hat.2.2.1.block k h3.1 h3.2]
          · intro a2 W2 h2 hk2
            rw [← HFS] at h2
            exact ⟨hk2, h2, rfl⟩
        case done =>
          rintro D xs W hD rfl hat hK
          rw [show (upto C.length C.length).map (fun x => x.val) = List.range C.length by rw [upto_map _ _ (Nat.le_refl _) (fun i => i), List.map_id'], HFO.out] at hat
          obtain ⟨he, hls, hk, hr, hgl, hg10, uv, hg9, huv⟩ := hat
          have hTT := HTT.out
          rw [if_neg (by simp [he])] at hTT
          subst hTT
          obtain ⟨uo, uc, rfl, -⟩ := owns_shape huv
          have hw := HNW.out.1
          have h7 := hk.heap HB7.out (fun h => by rcases h with h | h | h | h <;> omega)
          obtain ⟨y0, y1, y2, f0, f1', f2, u1, u2, u3, u4, -, -, hres⟩ := res_store (x' := wd) (y' := (o : Int)) (u' := .slice uo s.ps.length uc) W (w.heap.size + 1) (g9 + 1) (by omega) h7 hg10
          obtain ⟨p0, p1, p2⟩ := cells_three (show W.drew.heap[g9]? = _ from hg9)
          have z10 : W.cell? ⟨g9 + 1, 0, none⟩ = some (.int .i64 0) := by rw [cell_of hg10]; rfl
          have HRES := Lib.hid hres
          have HLS := Lib.hid hls
          have HKW := Lib.hid hk
          have HRW := Lib.hid hr
          have HGL := Lib.hid hgl
          have HUV := Lib.hid huv
          clear hls hk hr hgl hg10 hg9 huv h7 hres SLT
          go_wp2
          clear z10
          refine wp_mono (Q := STkEnd D (w.heap.size + 1) (.slice (some ⟨gl, 0, none⟩) n n) 0 (((W.setCell ⟨w.heap.size + 1, 0, none⟩ (.bool wd)).setCell ⟨w.heap.size + 1, 1, none⟩ (.int .i64 (o : Int))).setCell ⟨w.heap.size + 1, 2, none⟩ (.slice uo s.ps.length uc)).drew) ?_ ?_
          · go_region_law fail
            all_goals exact ⟨rfl, rfl, rfl, rfl, rfl⟩
          · clear y0 y1 y2 f0 f1' f2 u1 u2 u3 u4 p0 p1 p2
            intro e a' w' h
            cases e with
            | normal =>
              obtain ⟨tm, df⟩ := a'
              obtain ⟨rfl, h6, h7, h8, rfl⟩ := h
              simp only at h6 h7 h8
              generalize (((W.setCell ⟨w.heap.size + 1, 0, none⟩ (.bool wd)).setCell ⟨w.heap.size + 1, 1, none⟩ (.int .i64 (o : Int))).setCell ⟨w.heap.size + 1, 2, none⟩ (.slice uo s.ps.length uc)).drew = W9 at *
              have hK9 : W9.heap[D]? = some (.deferred (some [])) := HRES.out.2.heap hK (fun h => by have h : D = w.heap.size + 1 := h; omega)
              go_wp2
              refine ⟨by simp, .inl ⟨_, _, rfl, run_takeDeferred hK9, ?_⟩⟩
              have hD2 : w6.heap.size ≤ D := hD
              have r9 := HRW.out.kept HRES.out.2 (fun h => by have h : q = w.heap.size + 1 := h; omega) (fun b hb h => by have h1 := HNW.out.2 b hb; have h : b = w.heap.size + 1 := h; omega)
              have rowD : ∀ k, some D = some k → w6.heap.size ≤ k ∧ ∃ o : Obj, W9.heap[k]? = some o ∧ o.isCells = false := fun k e' => by cases e'; exact ⟨hD2, _, hK9, rfl⟩
              have gg := grownBy_putObj' W9 D (.deferred none)
              refine ⟨_, results_tpt rfl _ _ (w.heap.size + 1) _ _ _ h6 h7 (heap_putObj HRES.out.1 (by omega)) rfl h8, .slice (some ⟨gl, 0, none⟩) n n, .slice uo s.ps.length uc, rfl, ⟨Rd.ownFrom (β := Unit) (a := fun _ => s.a) (f := fun _ => s.f) () _ _ _ r9 gg rowD, ?_⟩, ?_, ?_⟩
              · exact (K6.out.trans (HKW.out.trans HRES.out.2 (T := fun k => TkT q g9 (g9 + 1) gl k ∨ k = w.heap.size + 1) (fun _ h => .inl h) (fun _ _ h => .inr h)) (fun _ h => h) (fun j hj h => by
                  rcases h with (h | h | h | h) | h
                  · exact h
                  all_goals omega)).putObj _ (by omega)
              · show World.ownsRow _ _ _ _ _ s.ls.length (ivs s.ls)
                rw [HLS.out]
                exact owns_heap (heap_putObj (HRES.out.2.heap HGL.out (fun h => by have h : gl = w.heap.size + 1 := h; omega)) (by omega)) (by omega) HLS.out (by have := HN.out; simp only [maxLen]; omega)
              · exact owns_base (owns_row (HRES.out.2.owns HUV.out (fun k hk2 h => by have h1 := (own_lt HUV.out hk2).1; have h : k = w.heap.size + 1 := h; omega)) gg (fun k hk2 => (rowD k hk2).2)) (by omega)
            | _ => exact h.elim
        case stop =>
          rintro D c pre W hD ⟨kx, hkx, rfl⟩ ⟨hat, rfl⟩ hK
          rw [show (upto C.length kx).map (fun x => x.val) = List.range kx by rw [upto_map _ _ hkx (fun i => i), List.map_id']] at hat
          have hEE := ptFold_early (B := B) (wd := wd) (C := C) (s := pts0 n a1 f1) hkx hat.1
          rw [← hEE, HFO.out] at hat
          obtain ⟨he, hk, hr, hg10⟩ := hat
          have hTT := HTT.out
          rw [if_pos he] at hTT
          subst hTT
          have hw := HNW.out.1
          have h7 := hk.heap HB7.out (fun h => by rcases h with h | h | h | h <;> omega)
          obtain ⟨y0, y1, y2, f0, f1', f2, u1, u2, u3, u4, c10, c11, hres⟩ := res_store (x' := false) (y' := 0) (u' := .slice none 0 0) W (w.heap.size + 1) (g9 + 1) (by omega) h7 hg10
          have z10 : W.cell? ⟨g9 + 1, 0, none⟩ = some (.int .i64 (s.e : Int)) := by rw [cell_of hg10]; rfl
          have te2 : ((s.e : Int) != 0) = true := bne_iff_ne.2 (by omega)
          have HRES := Lib.hid hres
          have HKW := Lib.hid hk
          have HRW := Lib.hid hr
          clear hk hr hg10 h7 hres SLT hEE
          gi_wp2
          go_wp2
          clear z10
          refine wp_mono (Q := STkEnd D (w.heap.size + 1) (.slice none 0 0) (s.e : Int) (((W.setCell ⟨w.heap.size + 1, 0, none⟩ (.bool false)).setCell ⟨w.heap.size + 1, 1, none⟩ (.int .i64 0)).setCell ⟨w.heap.size + 1, 2, none⟩ (.slice none 0 0)).drew) ?_ ?_
          · go_region_law fail
            all_goals exact ⟨rfl, rfl, rfl, rfl, rfl⟩
          · clear y0 y1 y2 f0 f1' f2 u1 u2 u3 u4 c10 c11
            intro e a' w' h
            cases e with
            | normal =>
              obtain ⟨tm, df⟩ := a'
              obtain ⟨rfl, h6, h7, h8, rfl⟩ := h
              simp only at h6 h7 h8
              generalize (((W.setCell ⟨w.heap.size + 1, 0, none⟩ (.bool false)).setCell ⟨w.heap.size + 1, 1, none⟩ (.int .i64 0)).setCell ⟨w.heap.size + 1, 2, none⟩ (.slice none 0 0)).drew = W9 at *
              have hK9 : W9.heap[D]? = some (.deferred (some [])) := HRES.out.2.heap hK (fun h => by have h : D = w.heap.size + 1 := h; omega)
              go_wp2
              refine ⟨by simp, .inl ⟨_, _, rfl, run_takeDeferred hK9, ?_⟩⟩
              have hD2 : w6.heap.size ≤ D := hD
              have r9 := HRW.out.kept HRES.out.2 (fun h => by have h : q = w.heap.size + 1 := h; omega) (fun b hb h => by have h1 := HNW.out.2 b hb; have h : b = w.heap.size + 1 := h; omega)
              have rowD : ∀ k, some D = some k → w6.heap.size ≤ k ∧ ∃ o : Obj, W9.heap[k]? = some o ∧ o.isCells = false := fun k e' => by cases e'; exact ⟨hD2, _, hK9, rfl⟩
              have gg := grownBy_putObj' W9 D (.deferred none)
              refine ⟨_, results_tpt rfl _ _ (w.heap.size + 1) _ _ _ h6 h7 (heap_putObj HRES.out.1 (by omega)) rfl h8, .slice none 0 0, .slice none 0 0, rfl, ⟨Rd.ownFrom (β := Unit) (a := fun _ => s.a) (f := fun _ => s.f) () _ _ _ r9 gg rowD, ?_⟩, World.ownsRow_nil _ _ _ _, World.ownsRow_nil _ _ _ _⟩
              exact (K6.out.trans (HKW.out.trans HRES.out.2 (T := fun k => TkT q g9 (g9 + 1) gl k ∨ k = w.heap.size + 1) (fun _ h => .inl h) (fun _ _ h => .inr h)) (fun _ h => h) (fun j hj h => by
                  rcases h with (h | h | h | h) | h
                  · exact h
                  all_goals omega)).putObj _ (by omega)
            | _ => exact h.elim
    · have hTT : tkSec B a f block order = badST a1 f1 e1 := by
        unfold tkSec
        rw [if_neg (by rw [HSK.out]; simp), HT.out, if_pos he1]
        rfl
      rw [hTT]
      have FIN := Lib.hid (fun w' (h : RdPost base w q v B a1 f1 w') => stk_bad (e := e1) rfl h)
      have te : ((e1 : Int) != 0) = true := bne_iff_ne.2 (by omega)
      clear hTT he1 hl
      go_enter Try.func14, Try.ntmps14
      go_upto_region 1 with fail
      generalize (w.alloc (.cells #[.pointer (some ⟨q, 0, none⟩)] 35)).alloc (.cells #[.bool false, .int .i64 0, .slice none 0 0] 25) = w1 at *
      have x3 : w1.cell? ⟨w.heap.size, 0, none⟩ = some (.pointer (some ⟨q, 0, none⟩)) := by rw [cell_of B3.out]; rfl
      go_step3
      go_wp2_with (first
        | (go_at_call 32; refine TA.out.mono ?_; rintro e w2 ⟨rfl, p2⟩))
      obtain ⟨a9, a10, a11, a12⟩ := two_cells w2 wd (o : Int) (e1 : Int) _ rfl
      have S2 := Lib.hid p2.2.size
      have B72 := Lib.hid (p2.2.heap B7.out (fun h => by have := (HNQ.out (w.heap.size + 1) (by omega)).1; have h : w.heap.size + 1 = q := h; omega))
      generalize (w2.alloc (.cells #[.bool wd, .int .i64 (o : Int), .slice none 0 0] 25)).alloc (.cells #[.int .i64 (e1 : Int)] 31) = w3 at *
      have h7 := a11.heap B72.out id
      obtain ⟨y0, y1, y2, f0, f1', f2, u1, u2, u3, u4, c10, c11, hres⟩ := res_store (x' := false) (y' := 0) (u' := .slice none 0 0) w3 (w.heap.size + 1) (w2.heap.size + 1) (by have := S2.out; have := SZ1.out; omega) h7 a10
      have HRES := Lib.hid hres
      have R3 := Lib.hid (p2.1.kept a11 (fun h => h) (fun _ _ h => h))
      have K3 := Lib.hid (show Kept (One q) w w3 from (nix_one K1.out).trans (p2.2.trans (nix_one a11) (fun _ h => h) (fun _ _ h => h)) (fun _ h => h) (fun _ _ h => h))
      clear h7 hres a9 a10 a11 a12 p2
      go_region_law fail
      all_goals
        clear y0 y1 y2 f0 f1' f2 u1 u2 u3 u4 c10 c11
        go_wp2
        try rw [Exit.noGoto_ret]
        exact bodyPost_ret (results_tpt rfl _ _ (w.heap.size + 1) _ (.slice none 0 0) (.int .i64 (e1 : Int)) rfl rfl HRES.out.1 rfl rfl) rfl (FIN.out _ ⟨R3.out.kept HRES.out.2 (HNQ.out _ (by omega)).1 (HNQ.out _ (by omega)).2, K3.out.trans HRES.out.2 (fun _ h => h) (fun j hj h => by have h : j = w.heap.size + 1 := h; omega)⟩)

end Go.Proofs.Ytlbnjclchmnomaa
