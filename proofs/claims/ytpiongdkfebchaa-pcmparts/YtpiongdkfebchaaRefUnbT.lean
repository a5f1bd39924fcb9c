/- The reference of layer 6: Unbytes: the end of a round, a sample that is in its depth. -/
import Derived.Test.YtpiongdkfebchaaUnbDone
namespace Go.Proofs.Ytpiongdkfebchaa
open Go.RowKit Bx

/-- What begins with a region, in a row of statements. -/
def fromR (n : Nat) : Code → Option Code
  | .seq (.region id ops dr) b => if id = n then some (.seq (.region id ops dr) b) else fromR n b
  | .seq a b => match fromR n a with
    | some c => some c
    | none => fromR n b
  | .block _ c => fromR n c
  | .loop c => fromR n c
  | .scope c => fromR n c
  | .cond _ a b => match fromR n a with
    | some c => some c
    | none => fromR n b
  | _ => none

noncomputable def runbTail : Code := (fromR 19 (Try.f20.body.getD .skip)).getD .skip

def RUMid (vb : Value) (d : Int) (e C at' : Nat) (s : Int) (p8 p10 p13 : Nat) (a : Act) : Prop :=
  a.defers = [] ∧ a.tmps.size = 103 ∧ a.tmps[0]? = some vb ∧ a.tmps[2]? = some (.int .i64 d) ∧ a.tmps[3]? = some (.int .i64 (C : Int)) ∧ a.tmps[8]? = some (.pointer (some ⟨p8, 0, none⟩)) ∧ a.tmps[10]? = some (.pointer (some ⟨p10, 0, none⟩)) ∧
  a.tmps[12]? = some (.int .i64 (e : Int)) ∧ a.tmps[13]? = some (.pointer (some ⟨p13, 0, none⟩)) ∧ a.tmps[14]? = some (.int .i64 (at' : Int)) ∧ a.tmps[15]? = some (.int .i64 s)

theorem tail_quo {e C t at' : Nat} (he : 1 ≤ e ∧ e ≤ 4) (hC : 1 ≤ C ∧ C ≤ 8) (hat : e * t = at') (hal : at' ≤ 300) :
    ∃ c : Nat, (c = t % C ∧ c < C) ∧ (¬ e = 0) ∧ (¬ C = 0) ∧ wrap64 ((at' : Int) / (e : Int)) = (t : Int) ∧ (t : Int) % (C : Int) = (c : Int) ∧ (c : Int) < (C : Int) := by
  have h1 : at' / e = t := by rw [← hat, Nat.mul_div_cancel_left _ (by omega)]
  have h2 : t % C < C := Nat.mod_lt _ (by omega)
  have h3 : t ≤ 300 := by have := Nat.le_mul_of_pos_left t (show 0 < e by omega); omega
  refine ⟨t % C, ⟨rfl, h2⟩, by omega, by omega, ?_, rfl, by omega⟩
  rw [show (at' : Int) / (e : Int) = ((at' / e : Nat) : Int) from rfl, h1]
  exact w64_in _ (by omega)

/-- A block of another type keeps its cells where a row of integers grows. -/
theorem grown_other {base : Nat} {wx w6 : World} {v : Value} {n : Nat} {xs : List Value} {k : Nat} {cs : Array Value} {T : TypeId} (ho : wx.ownsRow base 3 1 v n xs) (hT : T ≠ 3) (hg : wx.grownBy w6 v.ownBlock) (hk : wx.heap[k]? = some (.cells cs T (0, 0))) : w6.heap[k]? = some (.cells cs T (0, 0)) := by
  refine (hg.block k (lt_of_heap hk) (fun e => ?_)).trans hk
  obtain ⟨cur', hh⟩ := owns_type ho e.symm
  rw [hk] at hh
  simp at hh
  exact hT hh.2

/-- The world behind a round that is in its depth. -/
def RUGone (base g p8 p10 p13 : Nat) (r d : Int) (C : Nat) (L : List (List Int)) (w w' : World) : Prop :=
  Kept Nix w w' ∧ w'.heap[p8]? = some (.cells z3 24 (0, 0)) ∧ w'.heap[p10]? = some (.cells z3 24 (0, 0)) ∧ w'.heap[p13]? = some (.cells #[.int .i64 r, .int .i64 d, .slice (some ⟨g, 0, none⟩) C C] 24 (0, 0)) ∧ ∃ us, Stack base g w' us L

theorem gone_push {g p8 p10 p13 C c : Nat} {r d s : Int} {us : List Value} {L : List (List Int)} {w w2 wx w6 : World} {v6 : Value} (hk : Kept Nix w w2) (h8 : w2.heap[p8]? = some (.cells z3 24 (0, 0))) (h10 : w2.heap[p10]? = some (.cells z3 24 (0, 0)))
    (h13 : w2.heap[p13]? = some (.cells #[.int .i64 r, .int .i64 d, .slice (some ⟨g, 0, none⟩) C C] 24 (0, 0))) (hst : Stack w.heap.size g w2 us L) (hg : w.heap.size ≤ g) (kx : Kept Nix w2 wx) (hc : c < L.length)
    (ho : w6.ownsRow w.heap.size 3 1 v6 ((L.getD c []).length + 1) (ivs (L.getD c []) ++ [.int .i64 s])) (gr : wx.grownBy w6 (us.getD c undef).ownBlock) (hv : v6.ownBlock = (us.getD c undef).ownBlock ∨ v6.ownBlock = some wx.heap.size) :
    RUGone w.heap.size g p8 p10 p13 r d C (L.set c (L.getD c [] ++ [s])) w (w6.setCell ⟨g, c, none⟩ v6) := by
  obtain ⟨s1, s2⟩ := hst.push kx hc ho gr hv
  have own : wx.ownsRow w.heap.size 3 1 (us.getD c undef) (L.getD c []).length (ivs (L.getD c [])) := kx.owns (hst.2.2.1 c hc) (fun _ _ h => h)
  have ne : ∀ (k : Nat) (cs : Array Value), w6.heap[k]? = some (Obj.cells cs 24 (0, 0)) → k ≠ g := fun k cs h e => by
    subst e
    rw [s2] at h
    simp at h
  have k6 : Kept Nix w w6 := (nix_trans hk kx).grown gr (fun kk hkk => .inr (own.lt kk hkk).1)
  have q : ∀ (k : Nat) (cs : Array Value), w2.heap[k]? = some (Obj.cells cs 24 (0, 0)) → (w6.setCell ⟨g, c, none⟩ v6).heap[k]? = some (Obj.cells cs 24 (0, 0)) := fun k cs h => by
    have h6 := grown_other own (by decide) gr (kx.heap h id)
    rw [heap_set_other (p := ⟨g, c, none⟩) (ne k cs h6)]
    exact h6
  exact ⟨k6.setCell (.inr hg) _, q _ _ h8, q _ _ h10, q _ _ h13, _, s1⟩

set_option maxHeartbeats 1000000 in
theorem runb_tail (vb : Value) (r d : Int) (e C t at' : Nat) (s : Int) (p8 p10 p13 g : Nat) (us : List Value) (L : List (List Int)) (a : Act) (w w2 : World) (ha : RUMid vb d e C at' s p8 p10 p13 a) (hind : inD s d = true) (he : 1 ≤ e ∧ e ≤ 4) (hC : 1 ≤ C ∧ C ≤ 8) (hat : e * t = at') (hal : at' ≤ 300)
    (hk : Kept Nix w w2) (h8 : w2.heap[p8]? = some (.cells z3 24 (0, 0))) (h10 : w2.heap[p10]? = some (.cells z3 24 (0, 0)))
    (h13 : w2.heap[p13]? = some (.cells #[.int .i64 r, .int .i64 d, .slice (some ⟨g, 0, none⟩) C C] 24 (0, 0))) (hst : Stack w.heap.size g w2 us L) (hg : w.heap.size ≤ g) (hL : L.length = C) (hrow : (L.getD (t % C) []).length ≤ 300) (Q : Exit → Act → World → Prop)
    (hQ : ∀ a' w', RUMid vb d e C at' s p8 p10 p13 a' → RUGone w.heap.size g p8 p10 p13 r d C (L.set (t % C) (L.getD (t % C) [] ++ [s])) w w' → Q .normal a' w') :
    Code.wp Try.prog runbTail Q a w2 := by
  obtain ⟨tm, df⟩ := a
  obtain ⟨rfl, hs, e0, e2, e3, e8, e10, e12, e13, e14, e15⟩ := ha
  simp only at hs e0 e2 e3 e8 e10 e12 e13 e14 e15
  obtain ⟨f, hf, hg'⟩ := fr_open hs
  have g0 := hg' _ _ e0
  have g2 := hg' _ _ e2
  have g3 := hg' _ _ e3
  have g8 := hg' _ _ e8
  have g10 := hg' _ _ e10
  have g12 := hg' _ _ e12
  have g13 := hg' _ _ e13
  have g14 := hg' _ _ e14
  have g15 := hg' _ _ e15
  simp only [List.range, List.range.loop, List.map] at hf
  rw [g0, g2, g3, g8, g10, g12, g13, g14, g15] at hf
  clear g0 g2 g3 g8 g10 g12 g13 g14 g15 hg' hs e0 e2 e3 e8 e10 e12 e13 e14 e15
  subst hf
  have RI := rin_any s d w2
  rw [hind] at RI
  have HRI := Lib.hid RI
  clear RI hind
  obtain ⟨c, ⟨hcm, hcl⟩, q0, q1, q2, q3, q4⟩ := tail_quo he hC hat hal
  rw [← hcm] at hrow hQ
  have HQ := Lib.hid hQ
  have hcL : c < L.length := by omega
  have hown := hst.2.2.1 c hcL
  have husl : us.length = C := hst.2.1.trans hL
  obtain ⟨uo, ucap, huc, -, -⟩ := owns_shape hown
  have hcell : us.toArray[c]? = some (.slice uo (L.getD c []).length ucap) := by
    rw [← huc, List.getElem?_toArray, List.getD_eq_getElem?_getD, List.getElem?_eq_getElem (show c < us.length by omega)]
    rfl
  have hcC : c < C := hcl
  have HST := Lib.hid hst
  have HK := Lib.hid hk
  have H8 := Lib.hid h8
  have H10 := Lib.hid h10
  have H13 := Lib.hid h13
  have HG := Lib.hid hg
  have HCL := Lib.hid hcL
  have HUC := Lib.hid huc
  have x13 : w2.drew.cell? ⟨p13, 2, none⟩ = some (.slice (some ⟨g, 0, none⟩) C C) := (cell_of (w := w2) (i := 2) h13).trans rfl
  have y13 : (w2.alloc (.cells #[.int .i64 s] 3)).drew.cell? ⟨p13, 2, none⟩ = some (.slice (some ⟨g, 0, none⟩) C C) := (cell_of (w := w2.alloc (.cells #[.int .i64 s] 3)) (i := 2) (((Kept.refl Nix w2).alloc _).heap h13 id)).trans rfl
  have xg : w2.drew.cell? ⟨g, c, none⟩ = some (.slice uo (L.getD c []).length ucap) := (cell_of (w := w2) (i := c) hst.1).trans hcell
  have yg : (w2.alloc (.cells #[.int .i64 s] 3)).drew.cell? ⟨g, c, none⟩ = some (.slice uo (L.getD c []).length ucap) := (cell_of (w := w2.alloc (.cells #[.int .i64 s] 3)) (i := c) (((Kept.refl Nix w2).alloc _).heap hst.1 id)).trans hcell
  have KX := Lib.hid (show Kept Nix w2 (w2.drew.alloc (.cells #[.int .i64 s] 3)) from (Kept.refl Nix w2).drew.alloc _)
  have OWN := Lib.hid (show (w2.drew.alloc (.cells #[.int .i64 s] 3)).ownsRow w.heap.size 3 1 (.slice uo (L.getD c []).length ucap) (L.getD c []).length (ivs (L.getD c [])) from by
    rw [← huc]
    exact KX.out.owns hown (fun _ _ h => h))
  have SRC := Lib.hid (src_one w2.drew (.int .i64 s) 3 rfl)
  have B1 := Lib.hid (show (L.getD c []).length + 1 ≤ maxLen ∧ ((L.getD c []).length + 1) * 8 ≤ 140737488355328 by simp only [maxLen]; omega)
  have B3 := Lib.hid (show w.heap.size ≤ (w2.drew.alloc (.cells #[.int .i64 s] 3)).heap.size from Nat.le_trans hk.size KX.out.size)
  have P6 := Lib.hid (show ∀ w6, (w2.drew.alloc (.cells #[.int .i64 s] 3)).grownBy w6 (Value.slice uo (L.getD c []).length ucap).ownBlock → w6.cell? ⟨p13, 2, none⟩ = some (.slice (some ⟨g, 0, none⟩) C C) ∧ w6.cell? ⟨g, c, none⟩ = some (.slice uo (L.getD c []).length ucap) ∧ w6.frozen? ⟨g, c, none⟩ = false from fun w6 gr => by
    have a1 := grown_other OWN.out (by decide) gr (KX.out.heap H13.out id)
    have a2 := grown_other OWN.out (by decide) gr (KX.out.heap HST.out.1 id)
    exact ⟨(cell_of a1).trans rfl, (cell_of a2).trans hcell, frozen_of a2⟩)
  clear hcm hcl hrow he hC hat hal hk h8 h10 h13 hst hg hL hQ hcL hown husl huc hcell
  generalize hn : (L.getD c []).length = n at *
  have HN := Lib.hid hn
  clear hn
  conv => arg 2; whnf
  go_upto_region 20 with (go_at_call 16; refine HRI.out.mono ?_; rintro e1 w3 ⟨rfl, hw3⟩; cases hw3; clear HRI)
  go_upto_region 23 with fail
  rw [q3]
  clear q0 q1 q2 q3
  refine wp_mono (Q := fun e' a' w' => match e' with
    | .normal => RUMid vb d e C at' s p8 p10 p13 a' ∧ RUGone w.heap.size g p8 p10 p13 r d C (L.set c (L.getD c [] ++ [s])) w w'
    | _ => False) ?_ ?_
  · go_region_law (first
      | (refine step_app _ rfl (.tmp 97) (.tmp 99) 45 rfl w.heap.size 3 (.int .i64 0) 1 8 Try.underlying45 info_int rfl (by decide) (.slice uo n ucap) n (ivs (L.getD c [])) rfl OWN.out (some ⟨w2.heap.size, 0, none⟩) 1 1 [.int .i64 s] rfl SRC.out B1.out.1 B1.out.2 B3.out ?_; intro v6 w6 o6 g6 n6; obtain ⟨b6, cap6, rfl, _⟩ := owns_pos o6 (Nat.succ_pos _); obtain ⟨z13, zg, zf⟩ := P6.out w6 g6; have O6 := Lib.hid o6; have G6 := Lib.hid g6; have N6 := Lib.hid n6; clear o6 g6 n6))
    all_goals exact ⟨⟨rfl, rfl, rfl, rfl, rfl, rfl, rfl, rfl, rfl, rfl, rfl⟩, gone_push HK.out H8.out H10.out H13.out HST.out HG.out KX.out HCL.out (by rw [HN.out]; exact O6.out) (by rw [HUC.out]; exact G6.out) (by rw [HUC.out]; exact N6.out)⟩
  · intro e' a' w' h
    cases e' with
    | normal => exact HQ.out a' w' h.1 h.2
    | exit id => exact h.elim
    | goto l => exact h.elim
    | ret => exact h.elim
    | panic ch => exact h.elim
    | outgrown => exact h.elim

end Go.Proofs.Ytpiongdkfebchaa
