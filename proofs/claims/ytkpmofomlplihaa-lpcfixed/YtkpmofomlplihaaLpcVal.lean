/- A predictor (two integers and a slice) as a whole in memory, as a result beside a number. -/
import Derived.Test.YtkpmofomlplihaaFill
import Derived.Test.YtkpmofomlplihaaAgg
namespace Go.Proofs.Ytkpmofomlplihaa
open Go.RowKit Bx

theorem size_lpc : (Try.prog.info? 24).map (·.size) = some 3 := by kernel_rfl

theorem one_lpc (s p : Int) (ao : Option Addr) (n c : Nat) : (#[.int .i64 s, .int .i64 p, .slice ao n c] : Array Value).all (·.oneCell') = true := by simp [Value.oneCell']

/-- A load of a whole struct that stands behind a guard. -/
theorem wpList_load_row_w {P : Program} {ops : Array Oper} {rest : List Oper} {o : Oper} {a : Act} {w : World} {Q : Exit → Act → World → Prop} (hgd : Region.wanted o (yielded ops a.tmps) = true) (ty : TypeId) (x : Operand) (ho : o.op = .load ty x)
    (g : Nat) (hx : a.eval x = .pointer (some ⟨g, 0, none⟩)) (t : TypeId) (cs : Array Value) (fr : Nat × Nat) (d : TypeDesc) (hg : w.heap[g]? = some (.cells cs t fr))
    (hu : P.underlying ty = some d) (hd : (match d with | .struct _ | .array _ _ => true | _ => false) = true) (hi : (P.info? ty).map (·.size) = some cs.size)
    (h : wpList P ops Q rest (a.put o.dst (.agg cs)) w) : wpList P ops Q (o :: rest) a w := by
  refine wpList_step fun K hK => ?_
  rw [if_pos hgd]
  exact wp_load_row ty x ho g hx t cs fr d hg hu hd hi (hK _ _ h)

/-- A result of two: a predictor that lives in memory, and a number. -/
theorem results_lpc {fn : Func} {p u : Tmp} (h : fn.results = #[.cell p 24, .tmp u]) (tmps : Array Value) (w : World) (g : Nat) (cs : Array Value) (x : Int)
    (hp : tmps.getD p undef = .pointer (some ⟨g, 0, none⟩)) (hg : w.heap[g]? = some (.cells cs 24 (0, 0))) (hc : cs.size = 3) (hu : tmps.getD u undef = .int .i64 x) :
    (results fn tmps).run Try.prog w = .ok (.tuple #[.agg cs, .int .i64 x]) w := by
  have h1 := run_loadVar_row (P := Try.prog) w g 24 24 cs (0, 0) _ hg Try.underlying24 rfl (by rw [hc]; exact size_lpc)
  rw [results_cell_tmp h, hp, hu]
  simp [asAddr, h1, Result.andThen]

theorem owns_set_low {w : World} {b : Nat} {e : TypeId} {size : Nat} {v : Value} {n : Nat} {xs : List Value} (ho : w.ownsRow b e size v n xs) (g : Nat) (hg : g < b) (cs : Array Value) : (w.setRow g cs).ownsRow b e size v n xs :=
  (Kept.setRow (S := fun k => k = g) (Kept.refl _ w) (.inl rfl) cs).owns ho (fun k hk he => by have := (own_lt ho hk).1; omega)

/-- A predictor that is laid into a new variable. -/
theorem put_lpc (w : World) (s p : Int) (u : Value) : ∀ w3, w3 = (w.alloc (.cells #[.int .i64 0, .int .i64 0, .slice none 0 0] 24)).setRow w.heap.size #[.int .i64 s, .int .i64 p, u] →
    Kept Nix w w3 ∧ ∀ w', Kept Nix w3 w' → w'.heap[w.heap.size]? = some (.cells #[.int .i64 s, .int .i64 p, u] 24 (0, 0)) ∧ w'.cell? ⟨w.heap.size, 0, none⟩ = some (.int .i64 s) ∧ w'.cell? ⟨w.heap.size, 1, none⟩ = some (.int .i64 p) ∧ w'.cell? ⟨w.heap.size, 2, none⟩ = some u := by
  rintro w3 rfl
  refine ⟨((Kept.refl _ w).alloc _).setRow (.inr (Nat.le_refl _)) _, fun w' hk => ?_⟩
  have hb := hk.heap (heap_row #[.int .i64 s, .int .i64 p, u] (heap_alloc_new w (.cells #[.int .i64 0, .int .i64 0, .slice none 0 0] 24))) id
  exact ⟨hb, by rw [cell_of hb]; rfl, by rw [cell_of hb]; rfl, by rw [cell_of hb]; rfl⟩

/-- A predictor by value: shift, precision, factors of the call's own. -/
def LpcOwn (base : Nat) (w : World) (s p : Int) (L : List Int) (v : Value) : Prop := ∃ u, v = .agg #[.int .i64 s, .int .i64 p, u] ∧ w.ownsRow base 3 1 u L.length (ivs L)

end Go.Proofs.Ytkpmofomlplihaa
