/- Package section: Take, the body of the loop over the parts. -/
import Derived.Test.YtlbnjclchmnomaaSecTakeI
namespace Go.Proofs.Ytlbnjclchmnomaa
open Go.RowKit Go.Shelf Bx
attribute [local go_sem] Oper.semAt_some

/-- The body of a range over a function. -/
def rangeBody : Code → Option Code
  | .seq a b => match rangeBody a with
    | some c => some c
    | none => rangeBody b
  | .block _ c => rangeBody c
  | .loop c => rangeBody c
  | .scope c => rangeBody c
  | .rangeFunc _ _ _ c => some c
  | .cond _ a b => match rangeBody a with
    | some c => some c
    | none => rangeBody b
  | _ => none

noncomputable def stkBody : Code := (rangeBody (Try.f14.body.getD .skip)).getD .skip

/-- What turns while parts are taken. -/
def TkT (q g9 g10 gl : Nat) : Nat → Prop := fun k => k = q ∨ k = g9 ∨ k = g10 ∨ k = gl

def STkAt (base q : Nat) (v : Value) (B : List Nat) (wd : Bool) (o n g9 g10 gl : Nat) (w6 : World) (s : PT) (W : World) : Prop :=
  s.e = 0 ∧ s.ls.length = n ∧ Kept (TkT q g9 g10 gl) w6 W ∧ Rd base W q v B s.a s.f ∧ W.heap[gl]? = some (.cells (ivs s.ls).toArray 3 (0, 0)) ∧ W.heap[g10]? = some (.cells #[.int .i64 0] 31 (0, 0)) ∧
    ∃ uv, W.heap[g9]? = some (.cells #[.bool wd, .int .i64 (o : Int), uv] 25 (0, 0)) ∧ W.ownsRow w6.heap.size 50 2 uv s.ps.length (pcs s.ps)

def STkOut (base q : Nat) (v : Value) (B : List Nat) (g9 g10 gl : Nat) (w6 : World) (s : PT) (W : World) : Prop :=
  s.e ≠ 0 ∧ Kept (TkT q g9 g10 gl) w6 W ∧ Rd base W q v B s.a s.f ∧ W.heap[g10]? = some (.cells #[.int .i64 (s.e : Nat)] 31 (0, 0))

theorem keepsFrom_of {T : Nat → Prop} {W W' : World} (B : Nat) (hk : Kept T W W') (hT : ∀ k, T k → k < W.heap.size → ∃ cs t fr, W.heap[k]? = some (.cells cs t fr)) : KeepsFrom B W W' :=
  ⟨hk.size, fun k o _ ho hc => hk.heap ho (fun e => by
    obtain ⟨cs, t, fr, h2⟩ := hT k e (lt_of_heap ho)
    rw [h2] at ho; cases ho; cases hc)⟩

theorem owns_cells {w : World} {base : Nat} {e : TypeId} {size : Nat} {v : Value} {n : Nat} {xs : List Value} (h : w.ownsRow base e size v n xs) : ∀ k, Own v k → ∃ cs t fr, w.heap[k]? = some (.cells cs t fr) := by
  intro k hk
  rcases h.2 with ⟨rfl, _⟩ | ⟨g, cap, cur, rfl, hb, hg, _⟩
  · simp [Own, Value.ownBlock] at hk
  · simp only [Own, Value.ownBlock, Option.some.injEq] at hk
    subst hk
    exact ⟨_, _, _, hg⟩

theorem ptNext_go {B : List Nat} {wd : Bool} {C : List Nat} {s : PT} (h : s.e = 0) (i : Nat) : ptNext B wd C s i = ⟨lay s.ls (C.take i).sum (ptNums B wd C s i).xs, s.ps ++ [(tkPart B wd s.a s.f).p], (ptNums B wd C s i).a, (ptNums B wd C s i).f, (ptNums B wd C s i).e⟩ := by
  unfold ptNext
  rw [if_neg (by simp [h])]

set_option maxRecDepth 10000 in
set_option maxHeartbeats 4000000 in
theorem stk_body (l : Nat) (base q : Nat) (v : Value) (B : List Nat) (wd : Bool) (o n : Nat) (C : List Nat) (g3 g9 g10 gl : Nat) (w6 : World) (s : PT) (i : Nat) (W : World) (a : Act) (E : Exit → Act → World → Prop)
    (hd : a.defers = []) (hs : a.tmps.size = 98) (h3 : a.tmps[3]? = some (.pointer (some ⟨g3, 0, none⟩))) (h9 : a.tmps[9]? = some (.pointer (some ⟨g9, 0, none⟩))) (h10 : a.tmps[10]? = some (.pointer (some ⟨g10, 0, none⟩))) (h14 : a.tmps[14]? = some (.slice (some ⟨gl, (C.take i).sum, none⟩) (C.getD i 0) (n - (C.take i).sum)))
    (hat : STkAt base q v B wd o n g9 g10 gl w6 s W) (hl : 8 * B.length < 8589934592) (hps : s.ps.length < 32768)
    (hg3 : w6.heap[g3]? = some (.cells #[.pointer (some ⟨q, 0, none⟩)] 35 (0, 0))) (h69 : w6.heap[g9]? = some (.cells #[.bool wd, .int .i64 (o : Int), .slice none 0 0] 25 (0, 0)) ∧ (∃ x, w6.heap[g10]? = some (.cells #[x] 31 (0, 0))) ∧ ∃ cs, w6.heap[gl]? = some (.cells cs 3 (0, 0)))
    (hne : gl ≠ q ∧ g10 ≠ q ∧ g3 ≠ q ∧ g9 ≠ q ∧ gl ≠ g10 ∧ g3 ≠ gl ∧ g3 ≠ g10 ∧ g9 ≠ gl ∧ g9 ≠ g10 ∧ g3 ≠ g9) (hq6 : q < w6.heap.size) (hvo : ∀ b, v.ownBlock = some b → b < w6.heap.size ∧ b ≠ gl ∧ b ≠ g10 ∧ b ≠ g9)
    (hz : (C.take i).sum + C.getD i 0 ≤ n) (hc : C.getD i 0 ≤ 65535)
    (hE1 : ∀ a' W', STkAt base q v B wd o n g9 g10 gl w6 (ptNext B wd C s i) W' → KeepsFrom w6.heap.size W W' → E .normal a' W')
    (hE2 : ∀ a' W', STkOut base q v B g9 g10 gl w6 (ptNext B wd C s i) W' → KeepsFrom w6.heap.size W W' → E (.exit 0) a' W') :
    stkBody.wpIn (Fence.wide.inRound l) 1 Try.prog E a W := by
  obtain ⟨he, hls, hk, hr, hgl, hg10, uv, hg9, huv⟩ := hat
  have HE1 := Lib.hid hE1
  have HE2 := Lib.hid hE2
  have HNE := Lib.hid hne
  have HVO := Lib.hid hvo
  have HQ6 := Lib.hid hq6
  have HZ := Lib.hid (And.intro hz hc)
  have H63 := Lib.hid hg3
  have H69 := Lib.hid h69
  have HE := Lib.hid he
  have HLS := Lib.hid hls
  have HPS := Lib.hid hps
  have HK := Lib.hid hk
  have HR := Lib.hid hr
  have HGL := Lib.hid hgl
  have HG10 := Lib.hid hg10
  have HG9 := Lib.hid hg9
  have HUV := Lib.hid huv
  have HL8 := Lib.hid hl
  have TP := Lib.hid (tpart_any base q v B s.a s.f wd W hr hl)
  have hg3W := hk.heap hg3 (fun h => by rcases h with h | h | h | h <;> omega)
  have x3 : W.cell? ⟨g3, 0, none⟩ = some (.pointer (some ⟨q, 0, none⟩)) := by rw [cell_of hg3W]; rfl
  have x9 := (cells_three hg9).1
  obtain ⟨f, hf, hg⟩ := fr_open hs
  obtain ⟨tm, df⟩ := a
  simp only at hd hs h3 h9 h10 h14 hf
  have e3 := hg _ _ h3
  have e9 := hg _ _ h9
  have e10 := hg _ _ h10
  have e14 := hg _ _ h14
  simp only [List.range, List.range.loop, List.map] at hf
  rw [e3, e9, e10, e14] at hf
  clear e3 e9 e10 e14 hg hs h3 h9 h10 h14 hE1 hE2 hne hvo hq6 hz hc hg3 h69 he hls hps hk hr hgl hg10 hg9 huv hl
  subst hf
  subst hd
  have HG3W := Lib.hid hg3W
  obtain ⟨uo, uc, rfl, -⟩ := owns_shape HUV.out
  have HNX := Lib.hid (ptNext_go (B := B) (wd := wd) (C := C) HE.out i)
  have HKP := Lib.hid (tkPart_small B wd s.a s.f)
  unfold ptNums at HNX
  generalize tkPart B wd s.a s.f = kt at *
  obtain ⟨⟨kk1, rr1⟩, ka, kf⟩ := kt
  simp only at TP HNX HKP
  clear hg3W
  conv => arg 4; whnf
  have M3 := Lib.hid (show s.ps.length + 1 ≤ maxLen ∧ (s.ps.length + 1) * 16 ≤ 140737488355328 by have := HPS.out; simp only [maxLen]; omega)
  have OUV := Lib.hid (fun k hk => (HUV.out.lt k hk))
  have HSZ := Lib.hid HK.out.size
  gi_wp2_with (first
    | (refine ⟨trivial, ?_⟩; gi_at_call 33; refine (CallsIn.inRound l (callsIn_wide.2 TP.out)).mono ?_; rintro e W1 ⟨rfl, p1⟩
       have R1 := Lib.hid p1.1
       have K1 := Lib.hid p1.2
       have H19 := Lib.hid (p1.2.heap HG9.out (fun h => by have h : g9 = q := h; have := HNE.out; omega))
       have a0 := heap_alloc_new W1 (.cells #[.int .i64 kk1, .bool rr1] 50)
       have ka : Kept Nix W1 (W1.alloc (.cells #[.int .i64 kk1, .bool rr1] 50)) := (Kept.refl _ _).alloc _
       have a1 := (cell_of (i := 0) a0).trans rfl
       have a2 := (cell_of (i := 1) a0).trans rfl
       have a3 := (cells_three (ka.heap H19.out id)).2.2
       have O1 := Lib.hid (K1.out.owns HUV.out (fun k hk h => by have h1 := (OUV.out k hk).1; have h : k = q := h; have := HQ6.out; omega))
       have O5 := Lib.hid ((O1.out.alloc (.cells #[.int .i64 kk1, .bool rr1] 50)).alloc (.cells #[.int .i64 kk1, .bool rr1] 50))
       have HBS := Lib.hid (show w6.heap.size ≤ ((W1.alloc (.cells #[.int .i64 kk1, .bool rr1] 50)).alloc (.cells #[.int .i64 kk1, .bool rr1] 50)).heap.size by have := K1.out.size; have := HSZ.out; simp; omega)
       have SRC := Lib.hid (show SrcIs ((W1.alloc (.cells #[.int .i64 kk1, .bool rr1] 50)).alloc (.cells #[.int .i64 kk1, .bool rr1] 50)) 2 (some ⟨W1.heap.size + 1, 0, none⟩) 1 1 [.int .i64 kk1, .bool rr1] by have h := src_part (W1.alloc (.cells #[.int .i64 kk1, .bool rr1] 50)) (.int .i64 kk1) (.bool rr1) 50 rfl rfl; rwa [show (W1.alloc (.cells #[.int .i64 kk1, .bool rr1] 50)).heap.size = W1.heap.size + 1 by simp] at h)
       clear p1 a0 ka)
    | (gi_at_builtin; refine wpListIn_app rfl _ _ 23 rfl w6.heap.size 50 (.agg #[.int .i64 0, .bool false]) 2 16 Try.underlying23 info_part rfl (by decide) _ _ _ rfl O5.out _ 1 1 [.int .i64 kk1, .bool rr1] rfl SRC.out M3.out.1 M3.out.2 HBS.out ?_
       intro v7 W7 o7 g7x n7
       replace g7x : World.grownBy _ W7 (Value.slice uo s.ps.length uc).ownBlock := g7x
       have h79 := (g7x.block g9 (by have := lt_of_heap H19.out; simp; omega) (fun e => by have h1 := (OUV.out g9 e.symm).1; have := lt_of_heap H69.out.1; omega)).trans ((((Kept.refl Nix W1).alloc (.cells #[.int .i64 kk1, .bool rr1] 50)).alloc (.cells #[.int .i64 kk1, .bool rr1] 50)).heap H19.out id)
       have z1 := (cells_three h79).2.2
       have z2 := frozen_of (i := 2) h79
       obtain ⟨vo, vc, rfl, -⟩ := owns_shape o7
       have K17 := Lib.hid (show Kept (Own (.slice uo s.ps.length uc)) W1 W7 from (((Kept.refl _ W1).alloc _).alloc _).grown g7x (fun k hk => .inl hk))
       have O7 := Lib.hid o7
       have H79 := Lib.hid h79
       have H15 := Lib.hid (g7x.block W1.heap.size (by simp; omega) (fun e => by have := (O1.out.lt _ e.symm).2; omega))
       clear o7 g7x n7 h79))
  have ne := HNE.out
  have g9l := lt_of_heap H69.out.1
  have gll := (let ⟨_, h⟩ := H69.out.2.2; lt_of_heap h)
  have g10l := (let ⟨_, h⟩ := H69.out.2.1; lt_of_heap h)
  have g3l := lt_of_heap H63.out
  have hq6 := HQ6.out
  have huo : ∀ k, Own (.slice uo s.ps.length uc) k → w6.heap.size ≤ k := fun k hk => (OUV.out k hk).1
  have s6 := HSZ.out
  have s1 := K1.out.size
  have k8 : Kept (fun k => k = q ∨ k = g9 ∨ Own (.slice uo s.ps.length uc) k) W (W7.setCell ⟨g9, 2, none⟩ (.slice vo (s.ps.length + 1) vc)) :=
    (K1.out.trans K17.out (T := fun k => k = q ∨ k = g9 ∨ Own (.slice uo s.ps.length uc) k) (fun _ h => .inl h) (fun _ _ h => .inr (.inr h))).setCell (p := ⟨g9, 2, none⟩) (.inl (.inr (.inl rfl))) _
  have k78 : Kept (One g9) W7 (W7.setCell ⟨g9, 2, none⟩ (.slice vo (s.ps.length + 1) vc)) := Kept.setCell (S := One g9) (Kept.refl _ W7) (p := ⟨g9, 2, none⟩) (.inl rfl) _
  have h89 : (W7.setCell ⟨g9, 2, none⟩ (.slice vo (s.ps.length + 1) vc)).heap[g9]? = some (.cells #[.bool wd, .int .i64 (o : Int), .slice vo (s.ps.length + 1) vc] 25 (0, 0)) := heap_set H79.out
  generalize W7.setCell ⟨g9, 2, none⟩ (.slice vo (s.ps.length + 1) vc) = W8 at *
  have r8 : Rd base W8 q v B ka kf := (R1.out.kept K17.out (fun h => by have := huo q h; omega) (fun b hb h => by have := huo b h; have := (HVO.out b hb).1; omega)).kept k78 (fun h => by have h : q = g9 := h; omega) (fun b hb h => by have h : b = g9 := h; exact (HVO.out b hb).2.2.2 h)
  have hgl8 := k8.heap HGL.out (fun h => by rcases h with h | h | h; omega; omega; have := huo gl h; omega)
  have hg108 := k8.heap HG10.out (fun h => by rcases h with h | h | h; omega; omega; have := huo g10 h; omega)
  have hg38 := k8.heap HG3W.out (fun h => by rcases h with h | h | h; omega; omega; have := huo g3 h; omega)
  have h715 : W7.heap[W1.heap.size]? = some (.cells #[.int .i64 kk1, .bool rr1] 50 (0, 0)) := H15.out.trans ((Below.heap_alloc _ _ _ (by simp)).trans (heap_alloc_new _ _))
  have hg15 := k78.heap h715 (fun h => by have h : W1.heap.size = g9 := h; omega)
  have o8 := k78.owns O7.out (fun k hk h => by have h1 := (own_lt O7.out hk).1; have h : k = g9 := h; omega)
  have HLN := Lib.hid (show s.ps.length + 1 = (s.ps ++ [(kk1, rr1)]).length by simp)
  have K8 := Lib.hid k8
  have H89 := Lib.hid h89
  have O8 := Lib.hid o8
  have KF := Lib.hid (show ∀ W9, Kept (TkS q gl g10) W8 W9 → KeepsFrom w6.heap.size W W9 from fun W9 h => by
    refine keepsFrom_of (T := fun k => k = q ∨ k = g9 ∨ k = g10 ∨ k = gl ∨ Own (.slice uo s.ps.length uc) k) _ (K8.out.trans h (fun j hj => ?_) (fun j _ hj => ?_)) (fun k hk _ => ?_)
    · rcases hj with hj | hj | hj
      · exact .inl hj
      · exact .inr (.inl hj)
      · exact .inr (.inr (.inr (.inr hj)))
    · rcases hj with hj | hj | hj
      · exact .inl hj
      · exact .inr (.inr (.inr (.inl hj)))
      · exact .inr (.inr (.inl hj))
    · rcases hk with rfl | rfl | rfl | rfl | hk
      · exact ⟨_, _, _, HR.out.2.1⟩
      · exact ⟨_, _, _, HG9.out⟩
      · exact ⟨_, _, _, HG10.out⟩
      · exact ⟨_, _, _, HGL.out⟩
      · exact owns_cells HUV.out k hk)
  have KT := Lib.hid (show ∀ W9, Kept (TkS q gl g10) W8 W9 → Kept (TkT q g9 g10 gl) w6 W9 from fun W9 h => by
    refine HK.out.trans (K8.out.trans h (T := fun k => TkT q g9 g10 gl k ∨ Own (.slice uo s.ps.length uc) k) (fun j hj => ?_) (fun j _ hj => ?_)) (fun _ h => h) (fun j hj h => ?_)
    · rcases hj with hj | hj | hj
      · exact .inl (.inl hj)
      · exact .inl (.inr (.inl hj))
      · exact .inr hj
    · rcases hj with hj | hj | hj
      · exact .inl (.inl hj)
      · exact .inl (.inr (.inr (.inr hj)))
      · exact .inl (.inr (.inr (.inl hj)))
    · rcases h with h | h
      · exact h
      · have := huo j h; omega)
  clear k8 k78 h89 o8 h715 z1 z2
  refine stk_inner l base q v B kk1 rr1 ka kf s.ls (C.take i).sum (C.getD i 0) (n - (C.take i).sum) gl g3 g10 W1.heap.size W8 _ _ rfl rfl rfl rfl rfl rfl rfl rfl r8 HL8.out hgl8 hg108 hg38 hg15 HKP.out.1 HKP.out.2 (by omega) (fun b hb => ⟨(HVO.out b hb).2.1, (HVO.out b hb).2.2.1⟩) (by rw [HLS.out]; exact HZ.out.1) HZ.out.2 (by have := HZ.out; omega) ?_ ?_
  · intro a' W9 _ _ he hr hgl hg10 hk
    show E .normal a' W9
    refine HE1.out a' W9 ?_ (KF.out W9 hk)
    rw [HNX.out]
    refine ⟨he, ?_, KT.out W9 hk, hr, hgl, hg10, .slice vo (s.ps.length + 1) vc, hk.heap H89.out (fun h => by rcases h with h | h | h <;> omega), ?_⟩
    · show (lay _ _ _).length = n
      rw [lay_length (by rw [tn_len _ he, HLS.out]; exact HZ.out.1), HLS.out]
    · show W9.ownsRow _ _ _ _ (s.ps ++ [(kk1, rr1)]).length (pcs (s.ps ++ [(kk1, rr1)]))
      rw [pcs_append, ← HLN.out]
      exact hk.owns O8.out (fun k hk2 h => by have h1 := (own_lt O8.out hk2).1; rcases h with h | h | h <;> omega)
  · intro a' W9 he hr hg10 hk
    show E (.exit 0) a' W9
    refine HE2.out a' W9 ?_ (KF.out W9 hk)
    rw [HNX.out]
    exact ⟨he, KT.out W9 hk, hr, hg10⟩

end Go.Proofs.Ytlbnjclchmnomaa
