/- What a law is told of a predictor: two integers and a slice of integers. -/
import Derived.Test.YtkpmofomlplihaaArgs
import Derived.Deep.Strs
namespace Go.Proofs.Ytkpmofomlplihaa
open Go.RowKit Go.ChangeShapes Go.WideShapes Go.ChangeAt

theorem trod_slice_head {H : Type} {enc : TypeId × Value → H} {P : Program} {W : World} {base : Nat} {sp : Nat → Bool} {held : Bool} {t e : TypeId} {u : Value} {fuel : Nat} {x : DataW H × List MemPlace}
    (ht : P.underlying t = some (.slice e)) (h : DataW.trod enc P W base sp held fuel t [u] = some x) : ∃ a l c, u = .slice a l c := by
  cases fuel with
  | zero => simp [DataW.trod] at h
  | succ n =>
    rw [DataW.trod_step] at h
    unfold DataW.trodStep at h
    simp only [ht] at h
    cases u <;> first | exact ⟨_, _, _, rfl⟩ | simp at h

theorem arg_lpc {H : Type} {enc : TypeId × Value → H} {P : Program} {W : World} {t i s : TypeId} {f0 f1 f2 : Field} {r : Reach} {b0 : Nat} {v : Value} {d : DataW H} {p : List MemPlace}
    (ht : P.underlying t = some (.struct #[f0, f1, f2])) (h3 : P.cellsOf t = 3) (t0 : f0.type = i) (t1 : f1.type = i) (t2 : f2.type = s) (o0 : f0.offset = 0) (o1 : f1.offset = 1) (o2 : f2.offset = 2)
    (hi : P.underlying i = some (.int .i64)) (hs : P.underlying s = some (.slice i)) (ci : P.cellsOf i = 1) (cs : P.cellsOf s = 1)
    (hval : Value.okWide P W r b0 t v) (h : DataW.Trod enc P W 0 (fun _ => true) true t v d p) :
    ∃ (x y : Int) (u : Value), v = .agg #[.int .i64 x, .int .i64 y, u] ∧ (Lit.int .i64 x).wf = true ∧ (Lit.int .i64 y).wf = true ∧ ∃ L : List Int, Sl W u (L.map (Value.int .i64)) ∧ ∀ n ∈ L, (Lit.int .i64 n).wf = true := by
  obtain ⟨cl, rfl, hsz⟩ := okWide_struct ht hval
  obtain ⟨c0, c1, c2, rfl⟩ : ∃ c0 c1 c2, cl = #[c0, c1, c2] := by
    obtain ⟨l⟩ := cl
    rw [h3] at hsz
    match l, hsz with
    | [a, b, c], _ => exact ⟨a, b, c, rfl⟩
  obtain ⟨fuel, hf⟩ := h
  obtain ⟨y0, y1, y2, n, _, _, hy0, hy1, hy2⟩ := Deep.trod_struct3 ht hf
  rw [t0, o0, ci] at hy0
  rw [t1, o1, ci] at hy1
  rw [t2, o2, cs] at hy2
  simp only [Value.cells, List.drop_zero, List.take_succ_cons, List.take_zero, List.drop_succ_cons] at hy0 hy1 hy2
  obtain ⟨x, ex, _, wx⟩ := DataW.trod_int hi hy0
  obtain ⟨y, ey, _, wy⟩ := DataW.trod_int hi hy1
  obtain ⟨a, l, c, rfl⟩ := trod_slice_head hs hy2
  simp only [List.cons.injEq, and_true] at ex ey
  subst ex
  subst ey
  obtain ⟨L, hL, hw⟩ := arg_ints (H := H) (enc := enc) (W := W) (a0 := a) (len0 := l) (cap0 := c) (d := y2.1) (p := y2.2) hs hi ci ⟨n, by simpa [Value.cells] using hy2⟩
  exact ⟨x, y, _, rfl, wx, wy, L, hL, hw⟩

end Go.Proofs.Ytkpmofomlplihaa
