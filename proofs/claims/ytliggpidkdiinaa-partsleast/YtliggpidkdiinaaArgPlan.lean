/- What a law is told of a plan: a bool, an integer and a slice of parts. -/
import Derived.Test.YtliggpidkdiinaaArgs
import Derived.Test.YtliggpidkdiinaaPartVal
import Derived.Deep.Strs
import Derived.Deep.SlicePairs
namespace Go.Proofs.Ytliggpidkdiinaa
open Go.RowKit Go.ChangeShapes Go.WideShapes Go.ChangeAt

theorem plan_slice_head {H : Type} {enc : TypeId × Value → H} {P : Program} {W : World} {base : Nat} {sp : Nat → Bool} {held : Bool} {t e : TypeId} {u : Value} {fuel : Nat} {x : DataW H × List MemPlace}
    (ht : P.underlying t = some (.slice e)) (h : DataW.trod enc P W base sp held fuel t [u] = some x) : ∃ a l c, u = .slice a l c := by
  cases fuel with
  | zero => simp [DataW.trod] at h
  | succ n =>
    rw [DataW.trod_step] at h
    unfold DataW.trodStep at h
    simp only [ht] at h
    cases u <;> first | exact ⟨_, _, _, rfl⟩ | simp at h

theorem arg_parts {H : Type} {enc : TypeId × Value → H} {P : Program} {W : World} {s e i b : TypeId} {f0 f1 : Field} {a0 : Option Addr} {len0 cap0 : Nat} {fuel : Nat} {x : DataW H × List MemPlace}
    (hs : P.underlying s = some (.slice e)) (he : P.underlying e = some (.struct #[f0, f1])) (ce : P.cellsOf e = 2) (o0 : f0.offset = 0) (o1 : f1.offset = 1) (t0 : f0.type = i) (t1 : f1.type = b)
    (hi : P.underlying i = some (.int .i64)) (hb : P.underlying b = some .bool) (ci : P.cellsOf i = 1) (cb : P.cellsOf b = 1)
    (h : DataW.trod enc P W 0 (fun _ => true) true fuel s [.slice a0 len0 cap0] = some x) : ∃ ps : List (Int × Bool), Pts W (.slice a0 len0 cap0) ps := by
  rcases Deep.open_slice_pairs hs he ce o0 o1 (by rw [t0]; exact ci) (by rw [t1]; exact cb) h with ⟨hcs, _⟩ | ⟨a, l, c, m, n, V0, V1, D0, D1, P0, P1, hcs, _, hl, hm, hmm, _, hc⟩
  · simp only [List.cons.injEq, Value.slice.injEq, and_true] at hcs
    obtain ⟨rfl, rfl, rfl⟩ := hcs
    exact ⟨[], none, 0, rfl, Nat.le_refl _, by simp [maxLen], fun h => absurd h (Nat.not_lt_zero _)⟩
  · simp only [List.cons.injEq, Value.slice.injEq, and_true] at hcs
    obtain ⟨rfl, rfl, rfl⟩ := hcs
    simp only [if_true] at hmm
    subst hmm
    have each : ∀ j, j < len0 → ∃ q : Int × Bool, W.cell? (a.add (j * 2)) = some (.int .i64 q.1) ∧ W.cell? (a.add (j * 2 + 1)) = some (.bool q.2) := by
      intro j hj
      obtain ⟨c0, c1, d0, d1⟩ := hc j (by omega)
      rw [t0] at d0
      rw [t1] at d1
      obtain ⟨z, e1, _, _⟩ := DataW.trod_int hi d0
      obtain ⟨r, e2, _⟩ := DataW.trod_bool hb d1
      simp only [List.cons.injEq, and_true] at e1 e2
      exact ⟨(z, r), by rw [c0, e1], by rw [c1, e2]⟩
    obtain ⟨q, hq⟩ := Deep.choose_lt each
    have hlen : ((List.range len0).map q).length = len0 := by simp
    refine ⟨(List.range len0).map q, some a, m, by rw [hlen], by rw [hlen]; exact hl, hm, fun h0 => ?_⟩
    rw [hlen] at h0
    obtain ⟨h1, -⟩ := hq 0 h0
    obtain ⟨bb, off, spot⟩ := a
    have hspot : spot = none := by simpa [Addr.add] using World.cell?_spot h1
    subst hspot
    refine ⟨bb, off, rfl, ?_, fun j hj => ?_⟩
    · have := World.block_lt_of_cell? W _ h1
      simpa [Addr.add] using this
    · rw [hlen] at hj
      obtain ⟨g0, g1⟩ := hq j hj
      rw [Addr.add_lit] at g0 g1
      have e : ((List.range len0).map q).getD j (0, false) = q j := by simp [List.getD, hj]
      rw [e]
      exact ⟨g0, by rw [Nat.add_assoc]; exact g1⟩

theorem arg_plan {H : Type} {enc : TypeId × Value → H} {P : Program} {W : World} {t i b s e : TypeId} {f0 f1 f2 p0 p1 : Field} {r : Reach} {b0 : Nat} {v : Value} {d : DataW H} {p : List MemPlace}
    (ht : P.underlying t = some (.struct #[f0, f1, f2])) (h3 : P.cellsOf t = 3) (t0 : f0.type = b) (t1 : f1.type = i) (t2 : f2.type = s) (o0 : f0.offset = 0) (o1 : f1.offset = 1) (o2 : f2.offset = 2)
    (hb : P.underlying b = some .bool) (hi : P.underlying i = some (.int .i64)) (hs : P.underlying s = some (.slice e)) (he : P.underlying e = some (.struct #[p0, p1])) (ce : P.cellsOf e = 2)
    (q0 : p0.offset = 0) (q1 : p1.offset = 1) (u0 : p0.type = i) (u1 : p1.type = b) (cb : P.cellsOf b = 1) (ci : P.cellsOf i = 1) (cs : P.cellsOf s = 1)
    (hval : Value.okWide P W r b0 t v) (h : DataW.Trod enc P W 0 (fun _ => true) true t v d p) :
    ∃ (x : Bool) (y : Int) (u : Value), v = .agg #[.bool x, .int .i64 y, u] ∧ (Lit.int .i64 y).wf = true ∧ ∃ ps : List (Int × Bool), Pts W u ps := by
  obtain ⟨cl, rfl, hsz⟩ := okWide_struct ht hval
  obtain ⟨c0, c1, c2, rfl⟩ : ∃ c0 c1 c2, cl = #[c0, c1, c2] := by
    obtain ⟨l⟩ := cl
    rw [h3] at hsz
    match l, hsz with
    | [a, b, c], _ => exact ⟨a, b, c, rfl⟩
  obtain ⟨fuel, hf⟩ := h
  obtain ⟨y0, y1, y2, n, _, _, hy0, hy1, hy2⟩ := Deep.trod_struct3 ht hf
  rw [t0, o0, cb] at hy0
  rw [t1, o1, ci] at hy1
  rw [t2, o2, cs] at hy2
  simp only [Value.cells, List.drop_zero, List.take_succ_cons, List.take_zero, List.drop_succ_cons] at hy0 hy1 hy2
  obtain ⟨x, ex, _⟩ := DataW.trod_bool hb hy0
  obtain ⟨y, ey, _, wy⟩ := DataW.trod_int hi hy1
  obtain ⟨a, l, c, rfl⟩ := plan_slice_head hs hy2
  simp only [List.cons.injEq, and_true] at ex ey
  subst ex
  subst ey
  obtain ⟨ps, hps⟩ := arg_parts hs he ce q0 q1 u0 u1 hi hb ci cb hy2
  exact ⟨x, y, _, rfl, wy, ps, hps⟩

end Go.Proofs.Ytliggpidkdiinaa
