/- Loops over iterators: a reader, and what is owned, from round to round; an append within a round; a loop within the body. No program. -/
import Derived.Test.YtlbnjclchmnomaaPk3
import Derived.Test.YtlbnjclchmnomaaRoundAny
import Derived.Test.YtlbnjclchmnomaaSecPut
namespace Go.Proofs.Ytlbnjclchmnomaa
open Go.RowKit Go.Shelf Bx
attribute [local go_sem] Oper.semAt_some

theorem Rd.cells {base : Nat} {w : World} {q : Nat} {v : Value} {B : List Nat} {a f : Nat} (h : Rd base w q v B a f) : ∀ k, Only q v k → ∃ cs t fr, w.heap[k]? = some (.cells cs t fr) := by
  rintro k (rfl | hk)
  · exact ⟨_, _, _, h.2.1⟩
  · obtain ⟨_, _, _, ho, _⟩ := h
    rcases ho.2 with ⟨rfl, _⟩ | ⟨g, cap, cur, rfl, hb, hg, _⟩
    · simp [Value.ownBlock] at hk
    · simp only [Value.ownBlock, Option.some.injEq] at hk
      subst hk
      exact ⟨_, _, _, hg⟩

theorem Rd.ownFrom {β : Type} {B base q : Nat} {v : Value} {D : List Nat} {a f : β → Nat} : OwnFrom B (fun (s : β) W => Rd base W q v D (a s) (f s)) :=
  fun s W W' row hs hg hr => by
    have hk : Kept (fun k => row = some k) W W' := (Kept.refl _ W).grown hg (fun k hk => .inl hk)
    refine Rd.kept hs hk (fun e => ?_) (fun k hk e => ?_)
    · obtain ⟨_, o, ho, hc⟩ := hr q e
      obtain ⟨cs, t, fr, h2⟩ := Rd.cells hs q (.inl rfl)
      rw [h2] at ho; cases ho; cases hc
    · obtain ⟨_, o, ho, hc⟩ := hr k e
      obtain ⟨cs, t, fr, h2⟩ := Rd.cells hs k (.inr hk)
      rw [h2] at ho; cases ho; cases hc

/-- What is owned stays so where a block that holds no cells turns. -/
theorem owns_row {W W' : World} {base : Nat} {e : TypeId} {size : Nat} {v : Value} {n : Nat} {xs : List Value} {row : Option Nat} (h : W.ownsRow base e size v n xs) (hg : W.grownBy W' row) (hr : ∀ k, row = some k → ∃ o : Obj, W.heap[k]? = some o ∧ o.isCells = false) : W'.ownsRow base e size v n xs := by
  have hk : Kept (fun k => row = some k) W W' := (Kept.refl _ W).grown hg (fun k hk => .inl hk)
  refine hk.owns h (fun k hk e => ?_)
  obtain ⟨o, ho, hc⟩ := hr k e
  rcases h.2 with ⟨rfl, _⟩ | ⟨g, cap, cur, rfl, hb, hg2, _⟩
  · simp [Value.ownBlock] at hk
  · simp only [Value.ownBlock, Option.some.injEq] at hk
    subst hk
    rw [hg2] at ho; cases ho; cases hc

theorem wpListIn_app {P : Program} {r m : Nat} {ops : Array Oper} {rest : List Oper} {o : Oper} {a : Act} {w : World} {Q : Exit → Act → World → Prop} (hgd : o.guard = none) (s x : Operand) (t : TypeId)
    (ho : o.op = .call { callee := .builtin .append, args := #[s, x], argTypes := #[t, t] })
    (base : Nat) (e : TypeId) (z : Value) (size bytes : Nat) (ht : P.underlying t = some (.slice e)) (hinf : (P.info? e).map (fun i => (i.zero, i.size, i.bytes)) = some (some z, size, bytes))
    (hzs : z.cells.size = size) (hsz : 0 < size)
    (v : Value) (n : Nat) (xs : List Value) (hs : a.eval s = v) (hown : w.ownsRow base e size v n xs)
    (ao : Option Addr) (k c : Nat) (news : List Value) (hx : a.eval x = .slice ao k c) (hsrc : SrcIs w size ao k c news)
    (h63 : n + k ≤ maxLen) (hbytes : (n + k) * bytes ≤ 140737488355328) (hbase : base ≤ w.heap.size)
    (h : ∀ v' w', w'.ownsRow base e size v' (n + k) (xs ++ news) → w.grownBy w' v.ownBlock → (v'.ownBlock = v.ownBlock ∨ v'.ownBlock = some w.heap.size) → wpListIn (Fence.wide.inRound r) m P ops Q rest (a.put o.dst v') w') : wpListIn (Fence.wide.inRound r) m P ops Q (o :: rest) a w := by
  refine wpListIn_plain hgd fun K hK => ?_
  obtain ⟨v', w', hr, h2, h3, h4⟩ := run_app (P := P) w base t o.type e z size bytes ht hinf hzs hsz v n xs hown ao k c news hsrc h63 hbytes hbase
  refine ⟨fun _ _ => trivial, ?_⟩
  rw [Oper.semAt_plain _ _ _ (by rw [ho]; intro c hc'; cases hc')]
  unfold execOp
  simp only [ho, resolve, invoke, builtin, Sem.run_bind, Sem.run_pure, Result.andThen_ok, List.map_toArray, List.map_cons, List.map_nil, hs, hx, hr]
  exact hK _ _ (h v' w' h2 h3 h4)

/-- The loop whose first region is the number n, in the body of a range over a function, too. -/
def loopIn (n : Nat) : Code → Option Code
  | .seq a b => match loopIn n a with
    | some c => some c
    | none => loopIn n b
  | .block _ c => loopIn n c
  | .loop c => if firstIs n c then some (.loop c) else loopIn n c
  | .scope c => loopIn n c
  | .rangeFunc _ _ _ c => loopIn n c
  | .cond _ a b => match loopIn n a with
    | some c => some c
    | none => loopIn n b
  | _ => none

end Go.Proofs.Ytlbnjclchmnomaa
