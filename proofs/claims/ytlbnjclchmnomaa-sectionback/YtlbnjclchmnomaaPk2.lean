/- What is kept apart in memory; slices as lists of cells, wherever they lie. No program. What every text on this program imports; two facts for all of them. Inside a round of a range over a function: a region that draws its order and whose operations leave the world alone but for draws. No program. Whole arrays and structs, by value, out of memory and into it; results that live in memory. -/
import Derived.Test.YtlbnjclchmnomaaPk1
import Derived.Test.YtlbnjclchmnomaaChecked
import Derived.WalkKit
import Derived.WalkLawsBesides
import Derived.WalkSpells
import Derived.PlainAid
import Derived.WalkMore
import Derived.ScopeJumps
import Derived.StillTailTactics
import Derived.Deep.QuietTactic
import Derived.BigQuiet
import Derived.Outline
import Derived.Deep.Cut
import Derived.Lib.Hide
import Derived.RangeFuncNested
import Derived.RangeFuncBound
import Derived.RangeFuncCalls
import Derived.RangeFuncLeaves
import Derived.RangeFuncBox
import Derived.Shelf.Abstract
import Derived.Shelf.RegionOpen
import Derived.OwnWalkIn
import Derived.TacticsInMore
import Derived.LoopNIn
import Derived.LoopIn
import Derived.Laws.Rows
import Derived.Laws.Tables
import Derived.Laws.CopyRow
import Derived.Laws.EntriesVeiled

namespace Go.Proofs.Ytlbnjclchmnomaa
open Go.RowKit

/-- Only block q may have turned. -/
def One (q : Nat) : Nat → Prop := fun k => k = q

theorem nix_trans {a b c : World} (h : Kept Nix a b) (k : Kept Nix b c) : Kept Nix a c := h.trans k (fun _ h => h) (fun _ _ h => h)

/-- What touches only what is new keeps all that was there. -/
theorem nix_put {S : Nat → Prop} {a b c : World} (h : Kept Nix a b) (k : Kept S b c) (hS : ∀ j, S j → a.heap.size ≤ j) : Kept Nix a c := h.trans k (fun _ h => h) (fun j hj e => by have := hS j e; omega)

/-- No block in both. -/
def Disj (S T : Nat → Prop) : Prop := ∀ k, S k → ¬ T k

theorem Disj.symm {S T : Nat → Prop} (h : Disj S T) : Disj T S := fun k h1 h2 => h k h2 h1

theorem disj_nix (S : Nat → Prop) : Disj S Nix := fun _ _ h => h

/-- What lay below stays apart from a thing that has grown. -/
theorem disj_grow {S : Nat → Prop} {p : Nat} {v v' : Value} {n : Nat} (hd : Disj S (Only p v)) (hS : ∀ k, S k → k < n) (hv : v'.ownBlock = v.ownBlock ∨ ∃ k, v'.ownBlock = some k ∧ n ≤ k) : Disj S (Only p v') := by
  rintro k hk (rfl | hk')
  · exact hd k hk (.inl rfl)
  · rcases hv with h | ⟨k', h, h2⟩
    · exact hd k hk (.inr (h ▸ hk'))
    · rw [h] at hk'
      have := hS k hk
      simp only [Option.some.injEq] at hk'
      omega

theorem disj_new {S T : Nat → Prop} {n : Nat} (hS : ∀ k, S k → k < n) (hT : ∀ k, T k → n ≤ k) : Disj S T := fun k h1 h2 => by have := hS k h1; have := hT k h2; omega

/-- The block of a slice. -/
def Own (v : Value) : Nat → Prop := fun k => v.ownBlock = some k

theorem owns_beside {base : Nat} {w w' : World} {e : TypeId} {size : Nat} {v : Value} {n : Nat} {xs : List Value} {q : Nat} {u u' : Value} (h : w.ownsRow base e size v n xs) (hk : Kept (Only q u) w w') (hd : Disj (Own v) (Only q u))
    (hv : u'.ownBlock = u.ownBlock ∨ ∃ k, u'.ownBlock = some k ∧ w.heap.size ≤ k) : w'.ownsRow base e size v n xs ∧ Disj (Own v) (Only q u') :=
  ⟨hk.owns h (fun k hk => hd k hk), disj_grow hd (fun _ hk => (h.lt _ hk).2) hv⟩

/-- A thing of the call's own that was turned: all that was there is kept. -/
theorem nix_own {base : Nat} {w1 w w' : World} {p : Nat} {v : Value} (hn : Kept Nix w1 w) (hk : Kept (Only p v) w w') (hf : ∀ k, Only p v k → base ≤ k) (hb : w1.heap.size ≤ base) : Kept Nix w1 w' :=
  nix_put hn hk (fun j hj => Nat.le_trans hb (hf j hj))

theorem only_nil (p k : Nat) : Only p (.slice none 0 0) k ↔ k = p := by simp [Only, Value.ownBlock]

/-- A row of the call's own has grown: nothing that was there before the call has turned. -/
theorem put_row {w w4 w5 w6 : World} {e : TypeId} {v : Value} {n : Nat} {xs : List Value} (k4 : Kept Nix w w4) (k5 : Kept Nix w4.drew w5) (o4 : w4.ownsRow w.heap.size e 1 v n xs) (g6 : w5.grownBy w6 v.ownBlock) : Kept Nix w w6 :=
  (nix_trans k4.drew k5).grown g6 (fun k hk => .inr (o4.lt k hk).1)

theorem Kept.undrew {S : Nat → Prop} {w w' : World} (h : Kept S w.drew w') : Kept S w w' := ⟨h.os, h.tape, h.output, h.size, h.block⟩

/-- The append onto a slice of the call's own, as one step of a region that draws its order. -/
theorem step_app {P : Program} (w : World) {ops : Array Oper} {o : Oper} {a : Act} {K : Act → World → Prop} {Q : Exit → Act → World → Prop} {E : Prop} (hgd : o.guard = none) (s x : Operand) (t : TypeId)
    (ho : o.op = .call { callee := .builtin .append, args := #[s, x], argTypes := #[t, t] })
    (base : Nat) (e : TypeId) (z : Value) (size bytes : Nat) (ht : P.underlying t = some (.slice e)) (hinf : (P.info? e).map (fun i => (i.zero, i.size, i.bytes)) = some (some z, size, bytes))
    (hzs : z.cells.size = size) (hsz : 0 < size)
    (v : Value) (n : Nat) (xs : List Value) (hs : a.eval s = v) (hown : w.ownsRow base e size v n xs)
    (ao : Option Addr) (m c : Nat) (news : List Value) (hx : a.eval x = .slice ao m c) (hsrc : SrcIs w size ao m c news)
    (h63 : n + m ≤ maxLen) (hbytes : (n + m) * bytes ≤ 140737488355328) (hbase : base ≤ w.heap.size)
    (h : ∀ v' w', w'.ownsRow base e size v' (n + m) (xs ++ news) → w.grownBy w' v.ownBlock → (v'.ownBlock = v.ownBlock ∨ v'.ownBlock = some w.heap.size) → K (a.put o.dst v') w') :
    if Region.wanted o (yielded ops a.tmps) = true then Oper.wp P o a w K Q else E := by
  have hw : Region.wanted o (yielded ops a.tmps) = true := by simp [Region.wanted, hgd]
  rw [if_pos hw]
  obtain ⟨v', w', hr, h2, h3, h4⟩ := run_app (P := P) w base t o.type e z size bytes ht hinf hzs hsz v n xs hown ao m c news hsrc h63 hbytes hbase
  unfold Oper.wp execOp
  simp only [ho, resolve, invoke, builtin, Sem.run_bind, Sem.run_pure, Result.andThen_ok, List.map_toArray, List.map_cons, List.map_nil, hs, hx, hr]
  exact h v' w' h2 h3 h4

/-- A slice that reads as these cells, wherever it lies. -/
def Sl (w : World) (v : Value) (xs : List Value) : Prop :=
  ∃ ao cap, v = .slice ao xs.length cap ∧ xs.length ≤ cap ∧ cap ≤ maxLen ∧ (ao = none → cap = 0) ∧
    (0 < xs.length → ∃ b off, ao = some ⟨b, off, none⟩ ∧ b < w.heap.size ∧ ∀ j u, xs[j]? = some u → w.cell? ⟨b, off + j, none⟩ = some u)

theorem sl_of_owns {w : World} {base : Nat} {e : TypeId} {v : Value} {n : Nat} {xs : List Value} (h : w.ownsRow base e 1 v n xs) : Sl w v xs := by
  have hn : xs.length = n := by simpa using h.1
  rcases h.2 with ⟨rfl, rfl⟩ | ⟨g, cap, cur, rfl, hb, hg, h1, h2, _⟩
  · exact ⟨none, 0, by rw [hn], by omega, by simp [maxLen], fun _ => rfl, fun h => by omega⟩
  · refine ⟨_, cap, by rw [hn], by omega, h2, fun h => by simp at h, fun _ => ⟨g, 0, rfl, lt_of_heap hg, fun j u hu => ?_⟩⟩
    have := h.cells (g := g) rfl j u hu
    rwa [Addr.add_lit] at this

theorem src_of_sl {w : World} {v : Value} {xs : List Value} (h : Sl w v xs) (h1 : ∀ u ∈ xs, u.oneCell' = true) : ∃ ao cap, v = .slice ao xs.length cap ∧ SrcIs w 1 ao xs.length cap xs := by
  obtain ⟨ao, cap, rfl, hc, hm, hno, hp⟩ := h
  refine ⟨ao, cap, rfl, by simp, fun e => ⟨by have := hno e; omega, hno e⟩, ?_, h1⟩
  rintro ad rfl j u hu
  have hj := (List.getElem?_eq_some_iff.1 hu).1
  obtain ⟨b, off, e, _, hh⟩ := hp (by omega)
  obtain rfl := Option.some.inj e
  rw [Addr.add_lit]
  exact hh j u hu

theorem Sl.kept {w w' : World} {v : Value} {xs : List Value} {S : Nat → Prop} (h : Sl w v xs) (hk : Kept S w w') (hS : ∀ b, b < w.heap.size → ¬ S b) : Sl w' v xs := by
  obtain ⟨ao, cap, rfl, hc, hm, hno, hp⟩ := h
  refine ⟨ao, cap, rfl, hc, hm, hno, fun h0 => ?_⟩
  obtain ⟨b, off, e, hb, hh⟩ := hp h0
  exact ⟨b, off, e, Nat.lt_of_lt_of_le hb hk.size, fun j u hu => (World.cell?_of_block (hk.block b hb (hS b hb))).trans (hh j u hu)⟩

theorem Sl.nix {w w' : World} {v : Value} {xs : List Value} (h : Sl w v xs) (hk : Kept Nix w w') : Sl w' v xs := h.kept hk (fun _ _ h => h)

theorem SrcIs.alloc {w : World} {size : Nat} {ao : Option Addr} {m c : Nat} {news : List Value} (h : SrcIs w size ao m c news) (o : Obj) : SrcIs (w.alloc o) size ao m c news := by
  obtain ⟨h1, h2, h3, h4⟩ := h
  refine ⟨h1, h2, fun ad e j u hu => ?_, h4⟩
  have hc := h3 ad e j u hu
  exact (World.cell?_of_block (Below.heap_alloc _ _ _ (World.block_lt_of_cell? w _ hc))).trans hc

/-- The cell of a slice of bytes at an index, as the walk asks for it. -/
theorem Sl.cells {w : World} {v : Value} {B : List Nat} (h : Sl w v (u8s B)) (h0 : 0 < B.length) : ∃ b off cap, v = .slice (some ⟨b, off, none⟩) B.length cap ∧ B.length ≤ cap ∧ cap ≤ maxLen ∧ ∀ j, j < B.length → w.cell? ⟨b, off + j, none⟩ = some (.int .u8 ((B.getD j 0 : Nat) : Int)) := by
  obtain ⟨ao, cap, rfl, hc, hm, hno, hp⟩ := h
  rw [u8s_length] at *
  obtain ⟨b, off, rfl, _, hh⟩ := hp h0
  exact ⟨b, off, cap, rfl, hc, hm, fun j hj => hh j _ (u8s_get B j hj)⟩

theorem Sl.shape {w : World} {v : Value} {B : List Nat} (h : Sl w v (u8s B)) : ∃ ao cap, v = .slice ao B.length cap := by
  obtain ⟨ao, cap, rfl, _⟩ := h
  rw [u8s_length]
  exact ⟨ao, cap, rfl⟩

theorem take_step {A B : List Nat} {i : Nat} (h : A.take i = B.take i) (h1 : i < A.length) (h2 : i < B.length) (hx : A.getD i 0 = B.getD i 0) : A.take (i + 1) = B.take (i + 1) := by
  rw [List.take_succ_eq_append_getElem h1, List.take_succ_eq_append_getElem h2, h]
  simp only [List.getD_eq_getElem?_getD, List.getElem?_eq_getElem h1, List.getElem?_eq_getElem h2, Option.getD_some] at hx
  rw [hx]

/-- A slice of integers, read by its index. -/
theorem Sl.ints {w : World} {v : Value} {k : IntKind} {zs : List Int} (h : Sl w v (zs.map (Value.int k))) : ∃ ao cap, v = .slice ao zs.length cap ∧ zs.length ≤ cap ∧ cap ≤ maxLen ∧
    (0 < zs.length → ∃ b off, ao = some ⟨b, off, none⟩ ∧ b < w.heap.size ∧ ∀ j, j < zs.length → w.cell? ⟨b, off + j, none⟩ = some (.int k (zs.getD j 0))) := by
  obtain ⟨ao, cap, rfl, hc, hm, hno, hp⟩ := h
  simp only [List.length_map] at *
  refine ⟨ao, cap, rfl, hc, hm, fun h0 => ?_⟩
  obtain ⟨b, off, rfl, hb, hh⟩ := hp h0
  exact ⟨b, off, rfl, hb, fun j hj => hh j _ (by simp [hj])⟩

theorem Sl.bools {w : World} {v : Value} {bs : List Bool} (h : Sl w v (bs.map Value.bool)) : ∃ ao cap, v = .slice ao bs.length cap ∧ bs.length ≤ cap ∧ cap ≤ maxLen ∧
    (0 < bs.length → ∃ b off, ao = some ⟨b, off, none⟩ ∧ b < w.heap.size ∧ ∀ j, j < bs.length → w.cell? ⟨b, off + j, none⟩ = some (.bool (bs.getD j false))) := by
  obtain ⟨ao, cap, rfl, hc, hm, hno, hp⟩ := h
  simp only [List.length_map] at *
  refine ⟨ao, cap, rfl, hc, hm, fun h0 => ?_⟩
  obtain ⟨b, off, rfl, hb, hh⟩ := hp h0
  exact ⟨b, off, rfl, hb, fun j hj => hh j _ (by simp [hj])⟩

theorem Sl.cellInt {w : World} {k : IntKind} {zs : List Int} {b off len cap : Nat} (h : Sl w (.slice (some ⟨b, off, none⟩) len cap) (zs.map (Value.int k))) {i : Nat} (hi : i < zs.length) : w.cell? ⟨b, off + i, none⟩ = some (.int k (zs.getD i 0)) := by
  obtain ⟨ao, c, e, _, _, hp⟩ := h.ints
  simp only [Value.slice.injEq] at e
  obtain ⟨rfl, rfl, rfl⟩ := e
  obtain ⟨b', off', e, _, hh⟩ := hp (by omega)
  simp only [Option.some.injEq, Addr.mk.injEq, and_true] at e
  obtain ⟨rfl, rfl⟩ := e
  exact hh i hi

theorem Sl.cellBool {w : World} {bs : List Bool} {b off len cap : Nat} (h : Sl w (.slice (some ⟨b, off, none⟩) len cap) (bs.map Value.bool)) {i : Nat} (hi : i < bs.length) : w.cell? ⟨b, off + i, none⟩ = some (.bool (bs.getD i false)) := by
  obtain ⟨ao, c, e, _, _, hp⟩ := h.bools
  simp only [Value.slice.injEq] at e
  obtain ⟨rfl, rfl, rfl⟩ := e
  obtain ⟨b', off', e, _, hh⟩ := hp (by omega)
  simp only [Option.some.injEq, Addr.mk.injEq, and_true] at e
  obtain ⟨rfl, rfl⟩ := e
  exact hh i hi

/-- Where a slice that isn't empty lies. -/
theorem Sl.where {w : World} {ao : Option Addr} {len cap : Nat} {xs : List Value} (h : Sl w (.slice ao len cap) xs) (h0 : 0 < len) : ∃ b off, ao = some ⟨b, off, none⟩ := by
  obtain ⟨ao', c, e, _, _, _, hp⟩ := h
  simp only [Value.slice.injEq] at e
  obtain ⟨rfl, rfl, rfl⟩ := e
  obtain ⟨b, off, e, _⟩ := hp h0
  exact ⟨b, off, e⟩

/-- A part of a slice: the cells from i on, n of them. -/
theorem Sl.part {w : World} {b off len cap : Nat} {xs : List Value} (h : Sl w (.slice (some ⟨b, off, none⟩) len cap) xs) (i n : Nat) (hin : i + n ≤ xs.length) (hn : 0 < n) : Sl w (.slice (some ⟨b, off + i, none⟩) n (cap - i)) ((xs.drop i).take n) := by
  obtain ⟨ao, c, e, hc, hm, hno, hp⟩ := h
  simp only [Value.slice.injEq] at e
  obtain ⟨rfl, rfl, rfl⟩ := e
  obtain ⟨b', off', e, hb, hh⟩ := hp (by omega)
  simp only [Option.some.injEq, Addr.mk.injEq, and_true] at e
  obtain ⟨rfl, rfl⟩ := e
  have hl : ((xs.drop i).take n).length = n := by simp; omega
  refine ⟨_, cap - i, by rw [hl], by rw [hl]; omega, by omega, fun h => by simp at h, fun _ => ⟨b, off + i, rfl, hb, fun j u hu => ?_⟩⟩
  have hj := (List.getElem?_eq_some_iff.1 hu).1
  rw [hl] at hj
  rw [List.getElem?_take, if_pos hj, List.getElem?_drop] at hu
  have := hh (i + j) u hu
  rwa [Nat.add_assoc]

def slen : Value → Nat
  | .slice _ n _ => n
  | _ => 0

def bls (l : List Bool) : List Value := l.map Value.bool

theorem bls_length (l : List Bool) : (bls l).length = l.length := by simp [bls]

theorem bls_one (l : List Bool) : ∀ u ∈ bls l, u.oneCell' = true := by
  intro u hu
  obtain ⟨_, _, rfl⟩ := List.mem_map.1 hu
  rfl

theorem bls_append (l m : List Bool) : bls (l ++ m) = bls l ++ bls m := by simp [bls]

end Go.Proofs.Ytlbnjclchmnomaa

namespace Go.Proofs.Ytlbnjclchmnomaa
open Go.RowKit Bx

theorem ret_int {k : IntKind} {a b : Int} (h : a = b) : Ending.returned (.int k a) = .returned (.int k b) := by rw [h]

theorem info_u8 : (Try.prog.info? 5).map (fun i => (i.zero, i.size, i.bytes)) = some (some (.int .u8 0), 1, 1) := by kernel_rfl

end Go.Proofs.Ytlbnjclchmnomaa

namespace Go.Proofs.Ytlbnjclchmnomaa
open Go.RowKit

section
variable {P : Program} {ops : Array Oper} {C : World → Prop} {r n : Nat}

def noDefer (o : Oper) : Bool := match o.op with | .defer _ => false | _ => true

theorem noDefer_spec {o : Oper} (h : noDefer o = true) : ∀ c, o.op ≠ .defer c := by
  intro c hc
  simp [noDefer, hc] at h

theorem opIn_of_quiet {o : Oper} {a : Act} {K : Act → Prop} {K' : Act → World → Prop} {Q' : Exit → Act → World → Prop} {w : World} (hd : noDefer o = true) (hw : C w) (h : ∀ a w', C w' → K a → K' a w') (hh : o.quiet P a C K) :
    o.wpIn (Fence.wide.inRound r) n P a w K' Q' := by
  obtain ⟨v, h1, h2⟩ := hh
  have h3 := h1 w hw
  refine ⟨fun _ _ => trivial, ?_⟩
  rw [Fence.inRound_round, Oper.semAt_some r a.eval o (noDefer_spec hd)]
  unfold Oper.quietAt at h3
  generalize (execOp a.eval o).run P w = z at *
  cases z with
  | ok m w' =>
    cases m <;> simp only [Oper.quietUpon] at h3
    case value u =>
      obtain ⟨e1, e2⟩ := h3
      rw [e1, e2]
      exact h _ _ hw h2
    case skip =>
      obtain ⟨e1, e2⟩ := h3
      rw [e1]
      show K' (a.put o.dst undef) w
      rw [← e2]
      exact h _ _ hw h2
    case enter f args =>
      obtain ⟨e1, hc⟩ := h3
      rw [e1]
      refine ⟨fun h => (by cases h), CallsIn.inRound r (callsIn_wide.2 (hc.mono fun e w'' ⟨he, hw''⟩ => ?_))⟩
      subst he
      exact h _ _ hw'' h2
  | halt x w' => simp only [Oper.quietUpon] at h3

theorem anyIn_of_quiet {md : Region.Mode} {Q : Act → Prop} {Q' : Exit → Act → World → Prop} (hd : ∀ (i : Nat) (o : Oper), ops[i]? = some o → noDefer o = true) (hQ : ∀ a w, C w → Q a → Q' .normal a w) : ∀ (fuel : Nat) (listed : Array Bool) (a : Act) (w : World), C w →
    wpAnyQ P md ops C Q fuel listed a → wpAnyIn (Fence.wide.inRound r) n P md ops Q' fuel listed a w
  | 0, _, _, _, hw, h => ⟨h.1, hQ _ _ hw h.2⟩
  | fuel + 1, _, _, _, hw, h => ⟨fun h0 => hQ _ _ hw (h.1 h0), fun i hi => by
      have hh := h.2 i hi
      unfold qOp at hh
      unfold wpOpIn
      split
      · rename_i ho
        simp only [ho] at hh
        exact anyIn_of_quiet hd hQ fuel _ _ _ hw hh
      · rename_i o ho
        simp only [ho] at hh
        split
        · rename_i hwt
          simp only [hwt, if_true] at hh
          exact opIn_of_quiet (hd i o ho) hw (fun a' w' hw' hk => anyIn_of_quiet hd hQ fuel _ a' w' hw' hk) hh
        · rename_i hwt
          simp only [hwt] at hh
          exact ⟨fun _ _ => trivial, anyIn_of_quiet hd hQ fuel _ _ _ hw hh⟩⟩

theorem round_quiet_lit {id : Nat} {Q : Exit → Act → World → Prop} {a : Act} {w : World} {l : List Oper} (hd : l.all noDefer = true) (hm : P.follows .mixedOrders = true) (hB : Region.lexB .any l.toArray = true)
    (h : wpQuiet P l.toArray (fun w' => ∃ n, w' = w.drewN n) (fun a' => ∀ w', (∃ n, w' = w.drewN n) → Q .normal a' w') l a) : (Code.region id l.toArray true).wpIn (Fence.wide.inRound r) n P Q a w := by
  have hd' : ∀ (i : Nat) (o : Oper), l.toArray[i]? = some o → noDefer o = true := by
    intro i o ho
    rw [List.getElem?_toArray] at ho
    exact List.all_eq_true.1 hd o (List.mem_of_getElem? ho)
  simp only [Region.lexB, Bool.and_eq_true] at hB
  refine wpIn_region_any hm (anyIn_of_quiet (C := fun w' => ∃ n, w' = w.drewN n) (Q := fun a' => ∀ w', (∃ n, w' = w.drewN n) → Q .normal a' w') hd' (fun _ w' hw' h => h w' hw') _ _ _ _ ⟨1, rfl⟩ ?_)
  have := wpAnyQ_lex (C := fun w' => ∃ n, w' = w.drewN n) (md := .any) hB.1 l 0 (Array.replicate l.toArray.size false) a (by simp) (by simpa using hB.2) h
  simpa using this
end

end Go.Proofs.Ytlbnjclchmnomaa

namespace Go.Proofs.Ytlbnjclchmnomaa
open Go.RowKit Bx

theorem heap_row {w : World} {g : Nat} {cur : Array Value} {t : TypeId} {fr : Nat × Nat} (cs : Array Value) (hg : w.heap[g]? = some (.cells cur t fr)) : (w.setRow g cs).heap[g]? = some (.cells cs t fr) := setRow_heap w g cur cs t fr hg

theorem heap_row_other {w : World} {g k : Nat} (cs : Array Value) (h : k ≠ g) : (w.setRow g cs).heap[k]? = w.heap[k]? := by
  simp only [World.setRow, Array.getElem?_modify]
  rw [if_neg (fun e => h e.symm)]

theorem Kept.setRow {S : Nat → Prop} {a w : World} (h : Kept S a w) {g : Nat} (hp : S g ∨ a.heap.size ≤ g) (cs : Array Value) : Kept S a (w.setRow g cs) :=
  h.trans (S' := fun k => k = g) ⟨rfl, rfl, rfl, by simp [World.setRow], fun k _ hk => heap_row_other cs hk⟩ (fun _ h => h)
    (fun j hj e => by rcases hp with hp | hp
                      · rw [e]; exact hp
                      · omega)

theorem heap_new {w : World} {o : Obj} {k : Nat} (h : k = w.heap.size) : (w.alloc o).heap[k]? = some o := by subst h; exact heap_alloc_new w o

variable {P : Program}

theorem load_row {w : World} {g : Nat} {t ty : TypeId} {cs : Array Value} {fr : Nat × Nat} {d : TypeDesc} (hg : w.heap[g]? = some (.cells cs t fr)) (hu : P.underlying ty = some d)
    (hd : (match d with | .struct _ | .array _ _ => true | _ => false) = true) (hi : (P.info? ty).map (·.size) = some cs.size) : (Instr.loadAt ty (.pointer (some ⟨g, 0, none⟩))).run P w = .ok (.agg cs) w := by
  simp only [Instr.loadAt, Instr.sureAddr, Sem.run_bind, Sem.run_pure, Result.andThen_ok, run_loadVar_row w g t ty cs fr d hg hu hd hi]

theorem store_row {w : World} {g : Nat} {t ty : TypeId} {old cs : Array Value} (hg : w.heap[g]? = some (.cells old t (0, 0))) (hi : (P.info? ty).map (·.size) = some cs.size) (ho : old.size = cs.size) (h1 : cs.all (·.oneCell') = true) :
    (Instr.storeAt ty (.pointer (some ⟨g, 0, none⟩)) (.agg cs)).run P w = .ok () (w.setRow g cs) := by
  simp only [Instr.storeAt, Instr.sureAddr, Sem.run_bind, Sem.run_pure, Result.andThen_ok, run_storeVar_row w g t ty old cs hg hi ho h1]

/-- Cells out of the middle of a block. -/
theorem load_mid {w : World} {g : Nat} {t ty : TypeId} {cur : Array Value} {fr : Nat × Nat} {d : TypeDesc} (o : Nat) (cs : List Value) (hg : w.heap[g]? = some (.cells cur t fr)) (hc : ∀ j v, cs[j]? = some v → cur[o + j]? = some v) (hu : P.underlying ty = some d)
    (hd : (match d with | .struct _ | .array _ _ => true | _ => false) = true) (hi : (P.info? ty).map (·.size) = some cs.length) : (Instr.loadAt ty (.pointer (some ⟨g, o, none⟩))).run P w = .ok (.agg cs.toArray) w := by
  have hl : (loadCells ⟨g, o, none⟩ cs.length).run P w = .ok cs.toArray w :=
    run_loadCells_list (P := P) w ⟨g, o, none⟩ cs (fun j v hv => by rw [Addr.add_lit, cell_of hg]; exact hc j v hv)
  cases hq : P.info? ty with
  | none => simp [hq] at hi
  | some i =>
    have hs : i.size = cs.length := by simpa [hq] using hi
    have hagg : (isAgg ty).run P w = .ok true w := by
      unfold isAgg
      rw [Sem.run_bind, run_underlying hu w]
      cases d <;> simp_all
    simp [Instr.loadAt, Instr.sureAddr, loadVar, Sem.run_bind, hagg, sizeOf, typeInfo, hq, hs, hl]

/-- Cells into the middle of a block. -/
theorem store_mid {w : World} {g : Nat} {t ty : TypeId} {cur : Array Value} (o : Nat) (cs : List Value) (hg : w.heap[g]? = some (.cells cur t (0, 0))) (hi : (P.info? ty).map (·.size) = some cs.length) (ho : o + cs.length ≤ cur.size) (h1 : ∀ v ∈ cs, v.oneCell' = true) :
    (Instr.storeAt ty (.pointer (some ⟨g, o, none⟩)) (.agg cs.toArray)).run P w = .ok () (w.setRow g (cur.toList.take o ++ cs ++ cur.toList.drop (o + cs.length)).toArray) := by
  have hst := run_storeCells_at P g o t cs 0 cur w hg (by simpa using ho) h1
  cases hq : P.info? ty with
  | none => simp [hq] at hi
  | some i =>
    have hs : cs.length = i.size := by simp [hq] at hi; omega
    simp only [Nat.add_zero] at hst
    simp [Instr.storeAt, Instr.sureAddr, storeVar, sizeOf, typeInfo, hq, Value.cells, hs, hst]

/-- A cell of an array by value. -/
theorem index_one {w : World} {t e : TypeId} {n i : Nat} {k : IntKind} {cs : Array Value} {v : Value} (h : P.underlying t = some (.array n e)) (hi : i < n) (ha : (isAgg e).run P w = .ok false w) (hz : (sizeOf e).run P w = .ok 1 w) (hc : cs[i]? = some v) :
    (Instr.index t (.agg cs) (.int k (i : Int))).run P w = .ok v w := by
  simp [Instr.index, asIntOf, Sem.run_bind, run_underlying h, part, ha, hz, hc]
  omega

/-- A result that lives in memory. -/
theorem ret_row {fn : Func} {p : Tmp} {ty : TypeId} (h : fn.results = #[.cell p ty]) {R : Ending → World → Prop} {a : Act} {w : World} (g : Nat) (t : TypeId) (cs : Array Value) (fr : Nat × Nat) (d : TypeDesc)
    (hp : a.tmps.getD p undef = .pointer (some ⟨g, 0, none⟩)) (hg : w.heap[g]? = some (.cells cs t fr)) (hu : P.underlying ty = some d) (hd : (match d with | .struct _ | .array _ _ => true | _ => false) = true) (hi : (P.info? ty).map (·.size) = some cs.size)
    (hf : a.defers = []) (hR : R (.returned (.agg cs)) w) : bodyPost P fn R .ret a w :=
  bodyPost_ret (results_cell_row h a.tmps w g t cs fr d hp hg hu hd hi) hf hR

def u32s (B : List Nat) : List Value := B.map fun b : Nat => Value.int .u32 (b : Int)
theorem u32s_length (B : List Nat) : (u32s B).length = B.length := by simp [u32s]
theorem u32s_get (B : List Nat) (i : Nat) (h : i < B.length) : (u32s B)[i]? = some (.int .u32 ((B.getD i 0 : Nat) : Int)) := by simp [u32s, h]
theorem u32s_one (B : List Nat) : ∀ u ∈ u32s B, u.oneCell' = true := by
  intro u hu
  obtain ⟨_, _, rfl⟩ := List.mem_map.1 hu
  rfl
theorem all_one {l : List Value} (h : ∀ u ∈ l, u.oneCell' = true) : l.toArray.all (·.oneCell') = true := by simpa using h

theorem u8s_set (B : List Nat) (i x : Nat) : (u8s B).set i (.int .u8 (x : Int)) = u8s (B.set i x) := by simp [u8s, List.map_set]
theorem u32s_set (B : List Nat) (i x : Nat) : (u32s B).set i (.int .u32 (x : Int)) = u32s (B.set i x) := by simp [u32s, List.map_set]

end Go.Proofs.Ytlbnjclchmnomaa
