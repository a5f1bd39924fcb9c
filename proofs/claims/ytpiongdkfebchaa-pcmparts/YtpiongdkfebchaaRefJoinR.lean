/- The reference of layer 6: Join: a round. -/
import Derived.Test.YtpiongdkfebchaaPcmJoin
import Derived.Test.YtpiongdkfebchaaRefUnbT
import Derived.Test.YtpiongdkfebchaaFixRes
import Derived.Deep.RegionHeld3
namespace Go.Proofs.Ytpiongdkfebchaa
open Go.RowKit Bx

/-- A region by its number. -/
def theR (n : Nat) : Code → Option Code
  | .region id ops dr => if id = n then some (.region id ops dr) else none
  | .seq a b => match theR n a with
    | some c => some c
    | none => theR n b
  | .block _ c => theR n c
  | .loop c => theR n c
  | .scope c => theR n c
  | .cond _ a b => match theR n a with
    | some c => some c
    | none => theR n b
  | _ => none

noncomputable def rjoinR : Code := (theR 11 (Try.f26.body.getD .skip)).getD .skip

theorem lit_nil (w : World) (base : Nat) (h : base ≤ w.heap.size) : (w.alloc (.cells #[] 3)).ownsRow base 3 1 (.slice (some ⟨w.heap.size, 0, none⟩) 0 0) 0 [] := by
  have h := World.ownsRow_lit (base := base) (e := 3) (size := 1) w #[] 0 h (by decide) (by simp)
  simpa using h

theorem src_in {w w' : World} {ao : Option Addr} {n cap : Nat} {zs : List Int} (h : Sl w (.slice ao n cap) (ivs zs)) (hk : Kept Nix w w') : SrcIs w' 1 ao n cap (ivs zs) := by
  obtain ⟨ao', c', e, hs⟩ := src_of_sl (h.nix hk) (ivs_one _)
  simp only [Value.slice.injEq] at e
  obtain ⟨rfl, rfl, rfl⟩ := e
  exact hs

def RJMid (p2 p3 p4 p6 i : Nat) (a : Act) : Prop :=
  a.defers = [] ∧ a.tmps.size = 59 ∧ a.tmps[2]? = some (.pointer (some ⟨p2, 0, none⟩)) ∧ a.tmps[3]? = some (.pointer (some ⟨p3, 0, none⟩)) ∧ a.tmps[4]? = some (.pointer (some ⟨p4, 0, none⟩)) ∧ a.tmps[6]? = some (.pointer (some ⟨p6, 0, none⟩)) ∧ a.tmps[7]? = some (.int .i64 (i : Int))

def RJFin (r d : Int) (p6 : Nat) (v6 : Value) (us : List Value) (X : List (List Int)) (w w1 w' : World) : Prop :=
  Kept Nix w w' ∧ (∀ (k : Nat) (cs : Array Value) (t : TypeId), k ≠ p6 → t ≠ 45 → w1.heap[k]? = some (.cells cs t (0, 0)) → w'.heap[k]? = some (.cells cs t (0, 0))) ∧ w'.heap[p6]? = some (.cells #[.int .i64 r, .int .i64 d, v6] 24 (0, 0)) ∧ Rack w.heap.size w' v6 us X

def RJS (p2 p3 b off b' off' i n m cap bcap la ci lb ci' : Nat) (ai ai' : Option Addr) (w' : World) : Prop :=
  w'.cell? ⟨p2, 2, none⟩ = some (.slice (some ⟨b, off, none⟩) n cap) ∧ w'.cell? ⟨p3, 2, none⟩ = some (.slice (some ⟨b', off', none⟩) m bcap) ∧ w'.cell? ⟨b, off + i, none⟩ = some (.slice ai la ci) ∧ w'.cell? ⟨b', off' + i, none⟩ = some (.slice ai' lb ci')

theorem cell_other {w : World} {p : Addr} {u : Value} {k o : Nat} (h : k ≠ p.block) : (w.setCell p u).cell? ⟨k, o, none⟩ = w.cell? ⟨k, o, none⟩ := World.cell?_of_block (heap_set_other h)

set_option maxRecDepth 10000 in
set_option maxHeartbeats 4000000 in
theorem rjoin_push (r d r' d' : Int) (p2 p3 p4 p6 b off b' off' i n m cap bcap la ci lb ci' : Nat) (ai ai' : Option Addr) (A B : List Int) (us : List Value) (vr : Value) (X : List (List Int)) (w w1 : World) (a : Act) (ha : RJMid p2 p3 p4 p6 i a)
    (hk : Kept Nix w w1) (h2 : w1.heap[p2]? = some (.cells #[.int .i64 r, .int .i64 d, .slice (some ⟨b, off, none⟩) n cap] 24 (0, 0))) (h3 : w1.heap[p3]? = some (.cells #[.int .i64 r', .int .i64 d', .slice (some ⟨b', off', none⟩) m bcap] 24 (0, 0)))
    (h6 : w1.heap[p6]? = some (.cells #[.int .i64 r, .int .i64 d, vr] 24 (0, 0))) (hrk : Rack w.heap.size w1 vr us X) (hca : w1.cell? ⟨b, off + i, none⟩ = some (.slice ai la ci)) (hcb : w1.cell? ⟨b', off' + i, none⟩ = some (.slice ai' lb ci'))
    (hsa : Sl w1 (.slice ai la ci) (ivs A)) (hsb : Sl w1 (.slice ai' lb ci') (ivs B)) (hb : b < w.heap.size) (hb' : b' < w.heap.size) (hp6 : w.heap.size ≤ p6) (n2 : p2 ≠ p6) (n3 : p3 ≠ p6) (hin : i < n) (him : i < m) (hA : A.length = la) (hB : B.length = lb) (hla : la ≤ 1000000) (hlb : lb ≤ 1000000) (hus : us.length + 1 ≤ maxLen ∧ (us.length + 1) * 24 ≤ 140737488355328)
    (Q : Exit → Act → World → Prop) (hQ : ∀ a' w' v6 u, RJMid p2 p3 p4 p6 i a' → RJFin r d p6 v6 (us ++ [u]) (X ++ [A ++ B]) w w1 w' → Q .normal a' w') :
    Code.wp Try.prog rjoinR Q a w1 := by
  obtain ⟨tm, df⟩ := a
  obtain ⟨rfl, hs, e2, e3, e4, e6, e7⟩ := ha
  simp only at hs e2 e3 e4 e6 e7
  obtain ⟨f, hf, hg'⟩ := fr_open hs
  have g2 := hg' _ _ e2
  have g3 := hg' _ _ e3
  have g4 := hg' _ _ e4
  have g6 := hg' _ _ e6
  have g7 := hg' _ _ e7
  simp only [List.range, List.range.loop, List.map] at hf
  rw [g2, g3, g4, g6, g7] at hf
  clear g2 g3 g4 g6 g7 hg' hs e2 e3 e4 e6 e7
  subst hf
  obtain ⟨vo, vcap, rfl, -, -⟩ := owns_shape hrk.1
  have HS := Lib.hid (show ∀ w', Kept Nix w1 w' → RJS p2 p3 b off b' off' i n m cap bcap la ci lb ci' ai ai' w' from fun w' hk' =>
    ⟨(cell_of (hk'.heap h2 id)).trans rfl, (cell_of (hk'.heap h3 id)).trans rfl, (World.cell?_of_block (hk'.block _ (Nat.lt_of_lt_of_le hb hk.size) id)).trans hca, (World.cell?_of_block (hk'.block _ (Nat.lt_of_lt_of_le hb' hk.size) id)).trans hcb⟩)
  have HS18 := Lib.hid (show ∀ w' v, RJS p2 p3 b off b' off' i n m cap bcap la ci lb ci' ai ai' w' → RJS p2 p3 b off b' off' i n m cap bcap la ci lb ci' ai ai' (w'.setCell ⟨p6, 2, none⟩ v) from fun w' v hs =>
    ⟨(cell_other (p := ⟨p6, 2, none⟩) n2).trans hs.1, (cell_other (p := ⟨p6, 2, none⟩) n3).trans hs.2.1, (cell_other (p := ⟨p6, 2, none⟩) (Nat.ne_of_lt (Nat.lt_of_lt_of_le hb hp6))).trans hs.2.2.1, (cell_other (p := ⟨p6, 2, none⟩) (Nat.ne_of_lt (Nat.lt_of_lt_of_le hb' hp6))).trans hs.2.2.2⟩)
  have C6 := Lib.hid (show ∀ w', Kept Nix w1 w' → w'.cell? ⟨p6, 2, none⟩ = some (.slice vo us.length vcap) from fun w' hk' => (cell_of (hk'.heap h6 id)).trans rfl)
  have P6 := Lib.hid (show ∀ wk w16, Kept Nix w1 wk → wk.grownBy w16 (Value.slice vo us.length vcap).ownBlock → w16.heap[p6]? = some (.cells #[.int .i64 r, .int .i64 d, .slice vo us.length vcap] 24 (0, 0)) ∧ RJS p2 p3 b off b' off' i n m cap bcap la ci lb ci' ai ai' w16 from fun wk w16 hk' gr => by
    have own := hk'.owns hrk.1 (fun _ _ h => h)
    have other : ∀ (k : Nat) (cs : Array Value), wk.heap[k]? = some (Obj.cells cs 24 (0, 0)) → w16.heap[k]? = some (Obj.cells cs 24 (0, 0)) := fun k cs hh => by
      refine (gr.block k (lt_of_heap hh) (fun e => ?_)).trans hh
      obtain ⟨cur', hg'⟩ := owns_type own e.symm
      rw [hh] at hg'
      simp at hg'
    have low : ∀ k, k < w.heap.size → w16.heap[k]? = wk.heap[k]? := fun k hkk => gr.block k (Nat.lt_of_lt_of_le hkk (Nat.le_trans hk.size hk'.size)) (fun e => Nat.lt_irrefl k (Nat.lt_of_lt_of_le hkk (own.lt k e.symm).1))
    have q := HS.out wk hk'
    exact ⟨other _ _ (hk'.heap h6 id), (cell_of (other _ _ (hk'.heap h2 id))).trans rfl, (cell_of (other _ _ (hk'.heap h3 id))).trans rfl, (World.cell?_of_block (low b hb)).trans q.2.2.1, (World.cell?_of_block (low b' hb')).trans q.2.2.2⟩)
  have OB := Lib.hid (show (w1.drew.alloc (.cells #[] 3)).ownsRow w1.heap.size 3 1 (.slice (some ⟨w1.heap.size, 0, none⟩) 0 0) 0 [] from lit_nil w1.drew w1.heap.size (Nat.le_refl _))
  have SA := Lib.hid (fun w' (hk' : Kept Nix w1 w') => src_in hsa hk')
  have SB := Lib.hid (fun w' (hk' : Kept Nix w1 w') => src_in hsb hk')
  have B8 := Lib.hid (show 0 + la ≤ maxLen ∧ (0 + la) * 8 ≤ 140737488355328 by simp only [maxLen]; omega)
  have B14 := Lib.hid (show la + lb ≤ maxLen ∧ (la + lb) * 8 ≤ 140737488355328 by simp only [maxLen]; omega)
  have B16 := Lib.hid hus
  have HK := Lib.hid hk
  have H6 := Lib.hid h6
  have HRK := Lib.hid hrk
  have HLA := Lib.hid hA
  have HLB := Lib.hid hB
  have HP6 := Lib.hid hp6
  have HQ := Lib.hid (fun a' w' v6 u (h1 : RJMid p2 p3 p4 p6 i a') (h2 : RJFin r d p6 v6 (us ++ [u]) (X ++ [A ++ B]) w w1 w') => hQ a' w' v6 u h1 h2)
  have KW := Lib.hid (show Kept Nix w1 w1.drew from (Kept.refl _ _).drew)
  have hin1 : (i : Int) < (n : Int) := by omega
  have him1 : (i : Int) < (m : Int) := by omega
  clear hk h2 h3 h6 hrk hca hcb hsa hsb hb hb' hp6 n2 n3 hA hB hla hlb hus hQ
  conv => arg 2; whnf
  refine wp_region_noPanic ?_
  refine wp_region_held_drew (S := fun w' => RJS p2 p3 b off b' off' i n m cap bcap la ci lb ci' ai ai' w') (by kernel_rfl) (HS.out _ KW.out) (fun hHeld => ?_)
  refine wpAnyH_take (i := 0) (oi := { dst := some 40, op := Op.fieldAddr 24 (Operand.tmp 6) 2, type := 0, pos := "ref.go:155", after := #[], guard := none }) (v := ?_) rfl (by kernel_rfl) (by kernel_rfl) (by kernel_rfl) (fun _ _ _ h => h) (Or.inl ⟨by rfl, ?_⟩) (by assumption) ?_
  rotate_left
  · intro wz hz
    obtain ⟨z1, z2, z3, z4⟩ := hz
    go_simp
    try with_reducible rfl
  simp only [Act.put, List.setIfInBounds_toArray, List.set_cons_zero, List.set_cons_succ]
  refine wpAnyH_take (i := 3) (oi := { dst := some 43, op := Op.fieldAddr 24 (Operand.tmp 2) 2, type := 0, pos := "ref.go:155", after := #[], guard := none }) (v := ?_) rfl (by kernel_rfl) (by kernel_rfl) (by kernel_rfl) (fun _ _ _ h => h) (Or.inl ⟨by rfl, ?_⟩) (by assumption) ?_
  rotate_left
  · intro wz hz
    obtain ⟨z1, z2, z3, z4⟩ := hz
    go_simp
    try with_reducible rfl
  simp only [Act.put, List.setIfInBounds_toArray, List.set_cons_zero, List.set_cons_succ]
  refine wpAnyH_take (i := 4) (oi := { dst := some 44, op := Op.load 22 (Operand.tmp 43), type := 22, pos := "ref.go:155", after := #[{ on := 3, ground := Ground.data }], guard := none }) (v := ?_) rfl (by kernel_rfl) (by kernel_rfl) (by kernel_rfl) (fun _ _ _ h => h) (Or.inl ⟨by rfl, ?_⟩) (by assumption) ?_
  rotate_left
  · intro wz hz
    obtain ⟨z1, z2, z3, z4⟩ := hz
    go_simp
    try with_reducible rfl
  simp only [Act.put, List.setIfInBounds_toArray, List.set_cons_zero, List.set_cons_succ]
  refine wpAnyH_take (i := 5) (oi := { dst := some 45, op := Op.move (Operand.tmp 7), type := 3, pos := "ref.go:155", after := #[], guard := none }) (v := ?_) rfl (by kernel_rfl) (by kernel_rfl) (by kernel_rfl) (fun _ _ _ h => h) (Or.inl ⟨by rfl, ?_⟩) (by assumption) ?_
  rotate_left
  · intro wz hz
    obtain ⟨z1, z2, z3, z4⟩ := hz
    go_simp
    try with_reducible rfl
  simp only [Act.put, List.setIfInBounds_toArray, List.set_cons_zero, List.set_cons_succ]
  refine wpAnyH_take (i := 6) (oi := { dst := some 46, op := Op.indexAddr 22 (Operand.tmp 44) (Operand.tmp 45), type := 0, pos := "ref.go:155", after := #[{ on := 4, ground := Ground.data }, { on := 5, ground := Ground.data }], guard := none }) (v := ?_) rfl (by kernel_rfl) (by kernel_rfl) (by kernel_rfl) (fun _ _ _ h => h) (Or.inl ⟨by rfl, ?_⟩) (by assumption) ?_
  rotate_left
  · intro wz hz
    obtain ⟨z1, z2, z3, z4⟩ := hz
    go_simp
    try with_reducible rfl
  simp only [Act.put, List.setIfInBounds_toArray, List.set_cons_zero, List.set_cons_succ]
  refine wpAnyH_take (i := 7) (oi := { dst := some 47, op := Op.load 45 (Operand.tmp 46), type := 45, pos := "ref.go:155", after := #[{ on := 6, ground := Ground.data }], guard := none }) (v := ?_) rfl (by kernel_rfl) (by kernel_rfl) (by kernel_rfl) (fun _ _ _ h => h) (Or.inl ⟨by rfl, ?_⟩) (by assumption) ?_
  rotate_left
  · intro wz hz
    obtain ⟨z1, z2, z3, z4⟩ := hz
    go_simp
    try with_reducible rfl
  simp only [Act.put, List.setIfInBounds_toArray, List.set_cons_zero, List.set_cons_succ]
  refine wpAnyH_take (i := 9) (oi := { dst := some 49, op := Op.fieldAddr 24 (Operand.tmp 3) 2, type := 0, pos := "ref.go:155", after := #[], guard := none }) (v := ?_) rfl (by kernel_rfl) (by kernel_rfl) (by kernel_rfl) (fun _ _ _ h => h) (Or.inl ⟨by rfl, ?_⟩) (by assumption) ?_
  rotate_left
  · intro wz hz
    obtain ⟨z1, z2, z3, z4⟩ := hz
    go_simp
    try with_reducible rfl
  simp only [Act.put, List.setIfInBounds_toArray, List.set_cons_zero, List.set_cons_succ]
  refine wpAnyH_take (i := 10) (oi := { dst := some 50, op := Op.load 22 (Operand.tmp 49), type := 22, pos := "ref.go:155", after := #[{ on := 9, ground := Ground.data }], guard := none }) (v := ?_) rfl (by kernel_rfl) (by kernel_rfl) (by kernel_rfl) (fun _ _ _ h => h) (Or.inl ⟨by rfl, ?_⟩) (by assumption) ?_
  rotate_left
  · intro wz hz
    obtain ⟨z1, z2, z3, z4⟩ := hz
    go_simp
    try with_reducible rfl
  simp only [Act.put, List.setIfInBounds_toArray, List.set_cons_zero, List.set_cons_succ]
  refine wpAnyH_take (i := 11) (oi := { dst := some 51, op := Op.move (Operand.tmp 7), type := 3, pos := "ref.go:155", after := #[], guard := none }) (v := ?_) rfl (by kernel_rfl) (by kernel_rfl) (by kernel_rfl) (fun _ _ _ h => h) (Or.inl ⟨by rfl, ?_⟩) (by assumption) ?_
  rotate_left
  · intro wz hz
    obtain ⟨z1, z2, z3, z4⟩ := hz
    go_simp
    try with_reducible rfl
  simp only [Act.put, List.setIfInBounds_toArray, List.set_cons_zero, List.set_cons_succ]
  refine wpAnyH_take (i := 12) (oi := { dst := some 52, op := Op.indexAddr 22 (Operand.tmp 50) (Operand.tmp 51), type := 0, pos := "ref.go:155", after := #[{ on := 10, ground := Ground.data }, { on := 11, ground := Ground.data }], guard := none }) (v := ?_) rfl (by kernel_rfl) (by kernel_rfl) (by kernel_rfl) (fun _ _ _ h => h) (Or.inl ⟨by rfl, ?_⟩) (by assumption) ?_
  rotate_left
  · intro wz hz
    obtain ⟨z1, z2, z3, z4⟩ := hz
    go_simp
    try with_reducible rfl
  simp only [Act.put, List.setIfInBounds_toArray, List.set_cons_zero, List.set_cons_succ]
  refine wpAnyH_take (i := 13) (oi := { dst := some 53, op := Op.load 45 (Operand.tmp 52), type := 45, pos := "ref.go:155", after := #[{ on := 12, ground := Ground.data }], guard := none }) (v := ?_) rfl (by kernel_rfl) (by kernel_rfl) (by kernel_rfl) (fun _ _ _ h => h) (Or.inl ⟨by rfl, ?_⟩) (by assumption) ?_
  rotate_left
  · intro wz hz
    obtain ⟨z1, z2, z3, z4⟩ := hz
    go_simp
    try with_reducible rfl
  simp only [Act.put, List.setIfInBounds_toArray, List.set_cons_zero, List.set_cons_succ]
  refine wpAnyH_ready (rs := [1, 2]) (by kernel_rfl) (by simp) ?_
  refine AllReadyH.cons (o := { dst := some 41, op := Op.load 22 (Operand.tmp 40), type := 22, pos := "ref.go:155", after := #[{ on := 0, ground := Ground.data }], guard := none }) rfl (fun K hK => ?_) (AllReadyH.cons (o := { dst := some 42, op := Op.buildSlice 45 0 #[], type := 45, pos := "ref.go:155", after := #[], guard := none }) rfl (fun K hK => ?_) AllReadyH.nil)
  · skip
    have c6 := C6.out _ KW.out
    go_simp
    refine hK.out _ _ (HS.out _ KW.out) (fun hHeld => ?_)
    clear hK K
    try simp only [Act.put, List.setIfInBounds_toArray, List.set_cons_zero, List.set_cons_succ]
    clear c6
    refine wpAnyH_ready (rs := [2]) (by kernel_rfl) (by simp) ?_
    refine AllReadyH.cons (o := { dst := some 42, op := Op.buildSlice 45 0 #[], type := 45, pos := "ref.go:155", after := #[], guard := none }) rfl (fun K hK => ?_) AllReadyH.nil
    go_simp
    have KW2 := Lib.hid (show Kept Nix w1 (w1.drew.alloc (.cells #[] 3)) from KW.out.alloc _)
    refine hK.out _ _ (HS.out _ KW2.out) (fun hHeld => ?_)
    clear hK K
    try simp only [Act.put, List.setIfInBounds_toArray, List.set_cons_zero, List.set_cons_succ]
    clear KW; have KW := KW2; clear KW2
    refine wpAnyH_ready (rs := [8]) (by kernel_rfl) (by simp) ?_
    refine AllReadyH.cons (o := { dst := some 48, op := Op.call { callee := Callee.builtin Builtin.append, args := #[Operand.tmp 42, Operand.tmp 47], argTypes := #[45, 45] }, type := 45, pos := "ref.go:155", after := #[{ on := 2, ground := Ground.data }, { on := 7, ground := Ground.data }], guard := none }) rfl (fun K hK => ?_) AllReadyH.nil
    refine step_app _ rfl (.tmp 42) (.tmp 47) 45 rfl w1.heap.size 3 (.int .i64 0) 1 8 Try.underlying45 info_int rfl (by decide) (.slice (some ⟨w1.heap.size, 0, none⟩) 0 0) 0 [] rfl OB.out ai la ci (ivs A) rfl (SA.out _ KW.out) B8.out.1 B8.out.2 KW.out.size ?_
    intro v8 w8 o8 g8 n8
    have KW2 := Lib.hid (show Kept Nix w1 w8 from KW.out.grown g8 (fun kk hkk => .inr (OB.out.lt kk hkk).1))
    rw [Nat.zero_add, List.nil_append] at o8
    have O8 := Lib.hid o8
    obtain ⟨ao8, cap8, rfl, -, -⟩ := owns_shape o8
    clear o8 g8 n8
    refine hK.out _ _ (HS.out _ KW2.out) (fun hHeld => ?_)
    clear hK K
    try simp only [Act.put, List.setIfInBounds_toArray, List.set_cons_zero, List.set_cons_succ]
    clear KW; have KW := KW2; clear KW2
    refine wpAnyH_ready (rs := [14]) (by kernel_rfl) (by simp) ?_
    refine AllReadyH.cons (o := { dst := some 54, op := Op.call { callee := Callee.builtin Builtin.append, args := #[Operand.tmp 48, Operand.tmp 53], argTypes := #[45, 45] }, type := 45, pos := "ref.go:155", after := #[{ on := 8, ground := Ground.data }, { on := 13, ground := Ground.data }, { on := 8, ground := Ground.chain }], guard := none }) rfl (fun K hK => ?_) AllReadyH.nil
    refine step_app _ rfl (.tmp 48) (.tmp 53) 45 rfl w1.heap.size 3 (.int .i64 0) 1 8 Try.underlying45 info_int rfl (by decide) (.slice ao8 la cap8) la (ivs A) rfl O8.out ai' lb ci' (ivs B) rfl (SB.out _ KW.out) B14.out.1 B14.out.2 KW.out.size ?_
    intro v14 w14 o14 g14 n14
    have KW2 := Lib.hid (show Kept Nix w1 w14 from KW.out.grown g14 (fun kk hkk => .inr (O8.out.lt kk hkk).1))
    have O14 := Lib.hid o14
    obtain ⟨ao14, cap14, rfl, -, -⟩ := owns_shape o14
    clear o14 g14 n14
    refine hK.out _ _ (HS.out _ KW2.out) (fun hHeld => ?_)
    clear hK K
    try simp only [Act.put, List.setIfInBounds_toArray, List.set_cons_zero, List.set_cons_succ]
    clear KW; have KW := KW2; clear KW2
    refine wpAnyH_ready (rs := [15]) (by kernel_rfl) (by simp) ?_
    refine AllReadyH.cons (o := { dst := some 55, op := Op.buildSlice 22 1 #[(0, Operand.tmp 54)], type := 22, pos := "ref.go:155", after := #[{ on := 14, ground := Ground.data }], guard := none }) rfl (fun K hK => ?_) AllReadyH.nil
    go_simp
    have KW2 := Lib.hid (show Kept Nix w1 (w14.alloc (.cells #[.slice ao14 (la + lb) cap14] 45)) from KW.out.alloc _)
    refine hK.out _ _ (HS.out _ KW2.out) (fun hHeld => ?_)
    clear hK K
    try simp only [Act.put, List.setIfInBounds_toArray, List.set_cons_zero, List.set_cons_succ]
    clear KW; have KW := KW2; clear KW2
    refine wpAnyH_ready (rs := [16]) (by kernel_rfl) (by simp) ?_
    refine AllReadyH.cons (o := { dst := some 56, op := Op.call { callee := Callee.builtin Builtin.append, args := #[Operand.tmp 41, Operand.tmp 55], argTypes := #[22, 22] }, type := 22, pos := "ref.go:155", after := #[{ on := 1, ground := Ground.data }, { on := 15, ground := Ground.data }, { on := 14, ground := Ground.chain }], guard := none }) rfl (fun K hK => ?_) AllReadyH.nil
    have OWN := Lib.hid (KW.out.owns HRK.out.1 (fun _ _ h => h))
    refine step_app _ rfl (.tmp 41) (.tmp 55) 22 rfl w.heap.size 45 (.slice none 0 0) 1 24 Try.underlying22 info_ints rfl (by decide) (.slice vo us.length vcap) us.length us rfl OWN.out (some ⟨w14.heap.size, 0, none⟩) 1 1 [.slice ao14 (la + lb) cap14] rfl (src_one w14 _ _ rfl) B16.out.1 B16.out.2 (Nat.le_trans HK.out.size KW.out.size) ?_
    intro v16 w16 o16 g16 n16
    obtain ⟨b16, cap16, rfl, _⟩ := owns_pos o16 (Nat.succ_pos _)
    have OU := Lib.hid (show (w14.alloc (.cells #[.slice ao14 (la + lb) cap14] 45)).ownsRow w.heap.size 3 1 (.slice ao14 (la + lb) cap14) (A ++ B).length (ivs (A ++ B)) from by rw [List.length_append, HLA.out, HLB.out, ivs_append]; exact (owns_weak O14.out HK.out.size).alloc _)
    obtain ⟨s1, s2, s3, s4⟩ := rack_step (zs := A ++ B) HK.out H6.out HRK.out KW.out OU.out o16 g16 HP6.out
    have q6 := P6.out _ w16 KW.out g16
    have hc9 := cell_of (i := 2) q6.1
    have hf9 := frozen_of (i := 2) q6.1
    have S18 := Lib.hid (fun v => HS18.out w16 v q6.2)
    have HFIN := Lib.hid (And.intro s1 (And.intro s2 (And.intro s3 s4)))
    have HS16 := Lib.hid q6.2
    clear o16 g16 n16 s1 s2 s3 s4 q6
    refine hK.out _ _ (HS16.out) (fun hHeld => ?_)
    clear hK K
    try simp only [Act.put, List.setIfInBounds_toArray, List.set_cons_zero, List.set_cons_succ]
    refine wpAnyH_take (i := 17) (oi := { dst := some 57, op := Op.fieldAddr 24 (Operand.tmp 6) 2, type := 0, pos := "ref.go:155", after := #[{ on := 0, ground := Ground.phase }, { on := 1, ground := Ground.phase }, { on := 2, ground := Ground.phase }, { on := 3, ground := Ground.phase }, { on := 4, ground := Ground.phase }, { on := 5, ground := Ground.phase }, { on := 6, ground := Ground.phase }, { on := 7, ground := Ground.phase }, { on := 8, ground := Ground.phase }, { on := 9, ground := Ground.phase }, { on := 10, ground := Ground.phase }, { on := 11, ground := Ground.phase }, { on := 12, ground := Ground.phase }, { on := 13, ground := Ground.phase }, { on := 14, ground := Ground.phase }, { on := 15, ground := Ground.phase }, { on := 16, ground := Ground.phase }], guard := none }) (v := ?_) rfl (by kernel_rfl) (by kernel_rfl) (by kernel_rfl) (fun _ _ _ h => h) (Or.inl ⟨by rfl, ?_⟩) (by assumption) ?_
    rotate_left
    · intro wz hz
      obtain ⟨z1, z2, z3, z4⟩ := hz
      go_simp
      try with_reducible rfl
    simp only [Act.put, List.setIfInBounds_toArray, List.set_cons_zero, List.set_cons_succ]
    refine wpAnyH_ready (rs := [18]) (by kernel_rfl) (by simp) ?_
    refine AllReadyH.cons (o := { dst := none, op := Op.store 22 (Operand.tmp 57) (Operand.tmp 56), type := 0, pos := "ref.go:155", after := #[{ on := 17, ground := Ground.data }, { on := 16, ground := Ground.data }, { on := 16, ground := Ground.chain }, { on := 0, ground := Ground.phase }, { on := 1, ground := Ground.phase }, { on := 2, ground := Ground.phase }, { on := 3, ground := Ground.phase }, { on := 4, ground := Ground.phase }, { on := 5, ground := Ground.phase }, { on := 6, ground := Ground.phase }, { on := 7, ground := Ground.phase }, { on := 8, ground := Ground.phase }, { on := 9, ground := Ground.phase }, { on := 10, ground := Ground.phase }, { on := 11, ground := Ground.phase }, { on := 12, ground := Ground.phase }, { on := 13, ground := Ground.phase }, { on := 14, ground := Ground.phase }, { on := 15, ground := Ground.phase }, { on := 16, ground := Ground.phase }], guard := none }) rfl (fun K hK => ?_) AllReadyH.nil
    go_simp
    refine hK.out _ _ (S18.out _) (fun hHeld => ?_)
    clear hK K
    try simp only [Act.put, List.setIfInBounds_toArray, List.set_cons_zero, List.set_cons_succ]
    refine wpAnyH_done (by kernel_rfl) ?_ _
    exact NoPanic.normal (HQ.out _ _ _ _ ⟨rfl, rfl, rfl, rfl, rfl, rfl, rfl⟩ HFIN.out)
  · skip
    go_simp
    have KW2 := Lib.hid (show Kept Nix w1 (w1.drew.alloc (.cells #[] 3)) from KW.out.alloc _)
    refine hK.out _ _ (HS.out _ KW2.out) (fun hHeld => ?_)
    clear hK K
    try simp only [Act.put, List.setIfInBounds_toArray, List.set_cons_zero, List.set_cons_succ]
    clear KW; have KW := KW2; clear KW2
    refine wpAnyH_ready (rs := [1, 8]) (by kernel_rfl) (by simp) ?_
    refine AllReadyH.cons (o := { dst := some 41, op := Op.load 22 (Operand.tmp 40), type := 22, pos := "ref.go:155", after := #[{ on := 0, ground := Ground.data }], guard := none }) rfl (fun K hK => ?_) (AllReadyH.cons (o := { dst := some 48, op := Op.call { callee := Callee.builtin Builtin.append, args := #[Operand.tmp 42, Operand.tmp 47], argTypes := #[45, 45] }, type := 45, pos := "ref.go:155", after := #[{ on := 2, ground := Ground.data }, { on := 7, ground := Ground.data }], guard := none }) rfl (fun K hK => ?_) AllReadyH.nil)
    · skip
      have c6 : (w1.alloc (.cells #[] 3)).drew.cell? ⟨p6, 2, none⟩ = some (.slice vo us.length vcap) := C6.out _ KW.out
      go_simp
      refine hK.out _ _ (HS.out _ KW.out) (fun hHeld => ?_)
      clear hK K
      try simp only [Act.put, List.setIfInBounds_toArray, List.set_cons_zero, List.set_cons_succ]
      clear c6
      refine wpAnyH_ready (rs := [8]) (by kernel_rfl) (by simp) ?_
      refine AllReadyH.cons (o := { dst := some 48, op := Op.call { callee := Callee.builtin Builtin.append, args := #[Operand.tmp 42, Operand.tmp 47], argTypes := #[45, 45] }, type := 45, pos := "ref.go:155", after := #[{ on := 2, ground := Ground.data }, { on := 7, ground := Ground.data }], guard := none }) rfl (fun K hK => ?_) AllReadyH.nil
      refine step_app _ rfl (.tmp 42) (.tmp 47) 45 rfl w1.heap.size 3 (.int .i64 0) 1 8 Try.underlying45 info_int rfl (by decide) (.slice (some ⟨w1.heap.size, 0, none⟩) 0 0) 0 [] rfl OB.out ai la ci (ivs A) rfl (SA.out _ KW.out) B8.out.1 B8.out.2 KW.out.size ?_
      intro v8 w8 o8 g8 n8
      have KW2 := Lib.hid (show Kept Nix w1 w8 from KW.out.grown g8 (fun kk hkk => .inr (OB.out.lt kk hkk).1))
      rw [Nat.zero_add, List.nil_append] at o8
      have O8 := Lib.hid o8
      obtain ⟨ao8, cap8, rfl, -, -⟩ := owns_shape o8
      clear o8 g8 n8
      refine hK.out _ _ (HS.out _ KW2.out) (fun hHeld => ?_)
      clear hK K
      try simp only [Act.put, List.setIfInBounds_toArray, List.set_cons_zero, List.set_cons_succ]
      clear KW; have KW := KW2; clear KW2
      refine wpAnyH_ready (rs := [14]) (by kernel_rfl) (by simp) ?_
      refine AllReadyH.cons (o := { dst := some 54, op := Op.call { callee := Callee.builtin Builtin.append, args := #[Operand.tmp 48, Operand.tmp 53], argTypes := #[45, 45] }, type := 45, pos := "ref.go:155", after := #[{ on := 8, ground := Ground.data }, { on := 13, ground := Ground.data }, { on := 8, ground := Ground.chain }], guard := none }) rfl (fun K hK => ?_) AllReadyH.nil
      refine step_app _ rfl (.tmp 48) (.tmp 53) 45 rfl w1.heap.size 3 (.int .i64 0) 1 8 Try.underlying45 info_int rfl (by decide) (.slice ao8 la cap8) la (ivs A) rfl O8.out ai' lb ci' (ivs B) rfl (SB.out _ KW.out) B14.out.1 B14.out.2 KW.out.size ?_
      intro v14 w14 o14 g14 n14
      have KW2 := Lib.hid (show Kept Nix w1 w14 from KW.out.grown g14 (fun kk hkk => .inr (O8.out.lt kk hkk).1))
      have O14 := Lib.hid o14
      obtain ⟨ao14, cap14, rfl, -, -⟩ := owns_shape o14
      clear o14 g14 n14
      refine hK.out _ _ (HS.out _ KW2.out) (fun hHeld => ?_)
      clear hK K
      try simp only [Act.put, List.setIfInBounds_toArray, List.set_cons_zero, List.set_cons_succ]
      clear KW; have KW := KW2; clear KW2
      refine wpAnyH_ready (rs := [15]) (by kernel_rfl) (by simp) ?_
      refine AllReadyH.cons (o := { dst := some 55, op := Op.buildSlice 22 1 #[(0, Operand.tmp 54)], type := 22, pos := "ref.go:155", after := #[{ on := 14, ground := Ground.data }], guard := none }) rfl (fun K hK => ?_) AllReadyH.nil
      go_simp
      have KW2 := Lib.hid (show Kept Nix w1 (w14.alloc (.cells #[.slice ao14 (la + lb) cap14] 45)) from KW.out.alloc _)
      refine hK.out _ _ (HS.out _ KW2.out) (fun hHeld => ?_)
      clear hK K
      try simp only [Act.put, List.setIfInBounds_toArray, List.set_cons_zero, List.set_cons_succ]
      clear KW; have KW := KW2; clear KW2
      refine wpAnyH_ready (rs := [16]) (by kernel_rfl) (by simp) ?_
      refine AllReadyH.cons (o := { dst := some 56, op := Op.call { callee := Callee.builtin Builtin.append, args := #[Operand.tmp 41, Operand.tmp 55], argTypes := #[22, 22] }, type := 22, pos := "ref.go:155", after := #[{ on := 1, ground := Ground.data }, { on := 15, ground := Ground.data }, { on := 14, ground := Ground.chain }], guard := none }) rfl (fun K hK => ?_) AllReadyH.nil
      have OWN := Lib.hid (KW.out.owns HRK.out.1 (fun _ _ h => h))
      refine step_app _ rfl (.tmp 41) (.tmp 55) 22 rfl w.heap.size 45 (.slice none 0 0) 1 24 Try.underlying22 info_ints rfl (by decide) (.slice vo us.length vcap) us.length us rfl OWN.out (some ⟨w14.heap.size, 0, none⟩) 1 1 [.slice ao14 (la + lb) cap14] rfl (src_one w14 _ _ rfl) B16.out.1 B16.out.2 (Nat.le_trans HK.out.size KW.out.size) ?_
      intro v16 w16 o16 g16 n16
      obtain ⟨b16, cap16, rfl, _⟩ := owns_pos o16 (Nat.succ_pos _)
      have OU := Lib.hid (show (w14.alloc (.cells #[.slice ao14 (la + lb) cap14] 45)).ownsRow w.heap.size 3 1 (.slice ao14 (la + lb) cap14) (A ++ B).length (ivs (A ++ B)) from by rw [List.length_append, HLA.out, HLB.out, ivs_append]; exact (owns_weak O14.out HK.out.size).alloc _)
      obtain ⟨s1, s2, s3, s4⟩ := rack_step (zs := A ++ B) HK.out H6.out HRK.out KW.out OU.out o16 g16 HP6.out
      have q6 := P6.out _ w16 KW.out g16
      have hc9 := cell_of (i := 2) q6.1
      have hf9 := frozen_of (i := 2) q6.1
      have S18 := Lib.hid (fun v => HS18.out w16 v q6.2)
      have HFIN := Lib.hid (And.intro s1 (And.intro s2 (And.intro s3 s4)))
      have HS16 := Lib.hid q6.2
      clear o16 g16 n16 s1 s2 s3 s4 q6
      refine hK.out _ _ (HS16.out) (fun hHeld => ?_)
      clear hK K
      try simp only [Act.put, List.setIfInBounds_toArray, List.set_cons_zero, List.set_cons_succ]
      refine wpAnyH_take (i := 17) (oi := { dst := some 57, op := Op.fieldAddr 24 (Operand.tmp 6) 2, type := 0, pos := "ref.go:155", after := #[{ on := 0, ground := Ground.phase }, { on := 1, ground := Ground.phase }, { on := 2, ground := Ground.phase }, { on := 3, ground := Ground.phase }, { on := 4, ground := Ground.phase }, { on := 5, ground := Ground.phase }, { on := 6, ground := Ground.phase }, { on := 7, ground := Ground.phase }, { on := 8, ground := Ground.phase }, { on := 9, ground := Ground.phase }, { on := 10, ground := Ground.phase }, { on := 11, ground := Ground.phase }, { on := 12, ground := Ground.phase }, { on := 13, ground := Ground.phase }, { on := 14, ground := Ground.phase }, { on := 15, ground := Ground.phase }, { on := 16, ground := Ground.phase }], guard := none }) (v := ?_) rfl (by kernel_rfl) (by kernel_rfl) (by kernel_rfl) (fun _ _ _ h => h) (Or.inl ⟨by rfl, ?_⟩) (by assumption) ?_
      rotate_left
      · intro wz hz
        obtain ⟨z1, z2, z3, z4⟩ := hz
        go_simp
        try with_reducible rfl
      simp only [Act.put, List.setIfInBounds_toArray, List.set_cons_zero, List.set_cons_succ]
      refine wpAnyH_ready (rs := [18]) (by kernel_rfl) (by simp) ?_
      refine AllReadyH.cons (o := { dst := none, op := Op.store 22 (Operand.tmp 57) (Operand.tmp 56), type := 0, pos := "ref.go:155", after := #[{ on := 17, ground := Ground.data }, { on := 16, ground := Ground.data }, { on := 16, ground := Ground.chain }, { on := 0, ground := Ground.phase }, { on := 1, ground := Ground.phase }, { on := 2, ground := Ground.phase }, { on := 3, ground := Ground.phase }, { on := 4, ground := Ground.phase }, { on := 5, ground := Ground.phase }, { on := 6, ground := Ground.phase }, { on := 7, ground := Ground.phase }, { on := 8, ground := Ground.phase }, { on := 9, ground := Ground.phase }, { on := 10, ground := Ground.phase }, { on := 11, ground := Ground.phase }, { on := 12, ground := Ground.phase }, { on := 13, ground := Ground.phase }, { on := 14, ground := Ground.phase }, { on := 15, ground := Ground.phase }, { on := 16, ground := Ground.phase }], guard := none }) rfl (fun K hK => ?_) AllReadyH.nil
      go_simp
      refine hK.out _ _ (S18.out _) (fun hHeld => ?_)
      clear hK K
      try simp only [Act.put, List.setIfInBounds_toArray, List.set_cons_zero, List.set_cons_succ]
      refine wpAnyH_done (by kernel_rfl) ?_ _
      exact NoPanic.normal (HQ.out _ _ _ _ ⟨rfl, rfl, rfl, rfl, rfl, rfl, rfl⟩ HFIN.out)
    · skip
      refine step_app _ rfl (.tmp 42) (.tmp 47) 45 rfl w1.heap.size 3 (.int .i64 0) 1 8 Try.underlying45 info_int rfl (by decide) (.slice (some ⟨w1.heap.size, 0, none⟩) 0 0) 0 [] rfl OB.out ai la ci (ivs A) rfl (SA.out _ KW.out) B8.out.1 B8.out.2 KW.out.size ?_
      intro v8 w8 o8 g8 n8
      have KW2 := Lib.hid (show Kept Nix w1 w8 from KW.out.grown g8 (fun kk hkk => .inr (OB.out.lt kk hkk).1))
      rw [Nat.zero_add, List.nil_append] at o8
      have O8 := Lib.hid o8
      obtain ⟨ao8, cap8, rfl, -, -⟩ := owns_shape o8
      clear o8 g8 n8
      refine hK.out _ _ (HS.out _ KW2.out) (fun hHeld => ?_)
      clear hK K
      try simp only [Act.put, List.setIfInBounds_toArray, List.set_cons_zero, List.set_cons_succ]
      clear KW; have KW := KW2; clear KW2
      refine wpAnyH_ready (rs := [1, 14]) (by kernel_rfl) (by simp) ?_
      refine AllReadyH.cons (o := { dst := some 41, op := Op.load 22 (Operand.tmp 40), type := 22, pos := "ref.go:155", after := #[{ on := 0, ground := Ground.data }], guard := none }) rfl (fun K hK => ?_) (AllReadyH.cons (o := { dst := some 54, op := Op.call { callee := Callee.builtin Builtin.append, args := #[Operand.tmp 48, Operand.tmp 53], argTypes := #[45, 45] }, type := 45, pos := "ref.go:155", after := #[{ on := 8, ground := Ground.data }, { on := 13, ground := Ground.data }, { on := 8, ground := Ground.chain }], guard := none }) rfl (fun K hK => ?_) AllReadyH.nil)
      · skip
        have c6 := C6.out _ KW.out
        go_simp
        refine hK.out _ _ (HS.out _ KW.out) (fun hHeld => ?_)
        clear hK K
        try simp only [Act.put, List.setIfInBounds_toArray, List.set_cons_zero, List.set_cons_succ]
        clear c6
        refine wpAnyH_ready (rs := [14]) (by kernel_rfl) (by simp) ?_
        refine AllReadyH.cons (o := { dst := some 54, op := Op.call { callee := Callee.builtin Builtin.append, args := #[Operand.tmp 48, Operand.tmp 53], argTypes := #[45, 45] }, type := 45, pos := "ref.go:155", after := #[{ on := 8, ground := Ground.data }, { on := 13, ground := Ground.data }, { on := 8, ground := Ground.chain }], guard := none }) rfl (fun K hK => ?_) AllReadyH.nil
        refine step_app _ rfl (.tmp 48) (.tmp 53) 45 rfl w1.heap.size 3 (.int .i64 0) 1 8 Try.underlying45 info_int rfl (by decide) (.slice ao8 la cap8) la (ivs A) rfl O8.out ai' lb ci' (ivs B) rfl (SB.out _ KW.out) B14.out.1 B14.out.2 KW.out.size ?_
        intro v14 w14 o14 g14 n14
        have KW2 := Lib.hid (show Kept Nix w1 w14 from KW.out.grown g14 (fun kk hkk => .inr (O8.out.lt kk hkk).1))
        have O14 := Lib.hid o14
        obtain ⟨ao14, cap14, rfl, -, -⟩ := owns_shape o14
        clear o14 g14 n14
        refine hK.out _ _ (HS.out _ KW2.out) (fun hHeld => ?_)
        clear hK K
        try simp only [Act.put, List.setIfInBounds_toArray, List.set_cons_zero, List.set_cons_succ]
        clear KW; have KW := KW2; clear KW2
        refine wpAnyH_ready (rs := [15]) (by kernel_rfl) (by simp) ?_
        refine AllReadyH.cons (o := { dst := some 55, op := Op.buildSlice 22 1 #[(0, Operand.tmp 54)], type := 22, pos := "ref.go:155", after := #[{ on := 14, ground := Ground.data }], guard := none }) rfl (fun K hK => ?_) AllReadyH.nil
        go_simp
        have KW2 := Lib.hid (show Kept Nix w1 (w14.alloc (.cells #[.slice ao14 (la + lb) cap14] 45)) from KW.out.alloc _)
        refine hK.out _ _ (HS.out _ KW2.out) (fun hHeld => ?_)
        clear hK K
        try simp only [Act.put, List.setIfInBounds_toArray, List.set_cons_zero, List.set_cons_succ]
        clear KW; have KW := KW2; clear KW2
        refine wpAnyH_ready (rs := [16]) (by kernel_rfl) (by simp) ?_
        refine AllReadyH.cons (o := { dst := some 56, op := Op.call { callee := Callee.builtin Builtin.append, args := #[Operand.tmp 41, Operand.tmp 55], argTypes := #[22, 22] }, type := 22, pos := "ref.go:155", after := #[{ on := 1, ground := Ground.data }, { on := 15, ground := Ground.data }, { on := 14, ground := Ground.chain }], guard := none }) rfl (fun K hK => ?_) AllReadyH.nil
        have OWN := Lib.hid (KW.out.owns HRK.out.1 (fun _ _ h => h))
        refine step_app _ rfl (.tmp 41) (.tmp 55) 22 rfl w.heap.size 45 (.slice none 0 0) 1 24 Try.underlying22 info_ints rfl (by decide) (.slice vo us.length vcap) us.length us rfl OWN.out (some ⟨w14.heap.size, 0, none⟩) 1 1 [.slice ao14 (la + lb) cap14] rfl (src_one w14 _ _ rfl) B16.out.1 B16.out.2 (Nat.le_trans HK.out.size KW.out.size) ?_
        intro v16 w16 o16 g16 n16
        obtain ⟨b16, cap16, rfl, _⟩ := owns_pos o16 (Nat.succ_pos _)
        have OU := Lib.hid (show (w14.alloc (.cells #[.slice ao14 (la + lb) cap14] 45)).ownsRow w.heap.size 3 1 (.slice ao14 (la + lb) cap14) (A ++ B).length (ivs (A ++ B)) from by rw [List.length_append, HLA.out, HLB.out, ivs_append]; exact (owns_weak O14.out HK.out.size).alloc _)
        obtain ⟨s1, s2, s3, s4⟩ := rack_step (zs := A ++ B) HK.out H6.out HRK.out KW.out OU.out o16 g16 HP6.out
        have q6 := P6.out _ w16 KW.out g16
        have hc9 := cell_of (i := 2) q6.1
        have hf9 := frozen_of (i := 2) q6.1
        have S18 := Lib.hid (fun v => HS18.out w16 v q6.2)
        have HFIN := Lib.hid (And.intro s1 (And.intro s2 (And.intro s3 s4)))
        have HS16 := Lib.hid q6.2
        clear o16 g16 n16 s1 s2 s3 s4 q6
        refine hK.out _ _ (HS16.out) (fun hHeld => ?_)
        clear hK K
        try simp only [Act.put, List.setIfInBounds_toArray, List.set_cons_zero, List.set_cons_succ]
        refine wpAnyH_take (i := 17) (oi := { dst := some 57, op := Op.fieldAddr 24 (Operand.tmp 6) 2, type := 0, pos := "ref.go:155", after := #[{ on := 0, ground := Ground.phase }, { on := 1, ground := Ground.phase }, { on := 2, ground := Ground.phase }, { on := 3, ground := Ground.phase }, { on := 4, ground := Ground.phase }, { on := 5, ground := Ground.phase }, { on := 6, ground := Ground.phase }, { on := 7, ground := Ground.phase }, { on := 8, ground := Ground.phase }, { on := 9, ground := Ground.phase }, { on := 10, ground := Ground.phase }, { on := 11, ground := Ground.phase }, { on := 12, ground := Ground.phase }, { on := 13, ground := Ground.phase }, { on := 14, ground := Ground.phase }, { on := 15, ground := Ground.phase }, { on := 16, ground := Ground.phase }], guard := none }) (v := ?_) rfl (by kernel_rfl) (by kernel_rfl) (by kernel_rfl) (fun _ _ _ h => h) (Or.inl ⟨by rfl, ?_⟩) (by assumption) ?_
        rotate_left
        · intro wz hz
          obtain ⟨z1, z2, z3, z4⟩ := hz
          go_simp
          try with_reducible rfl
        simp only [Act.put, List.setIfInBounds_toArray, List.set_cons_zero, List.set_cons_succ]
        refine wpAnyH_ready (rs := [18]) (by kernel_rfl) (by simp) ?_
        refine AllReadyH.cons (o := { dst := none, op := Op.store 22 (Operand.tmp 57) (Operand.tmp 56), type := 0, pos := "ref.go:155", after := #[{ on := 17, ground := Ground.data }, { on := 16, ground := Ground.data }, { on := 16, ground := Ground.chain }, { on := 0, ground := Ground.phase }, { on := 1, ground := Ground.phase }, { on := 2, ground := Ground.phase }, { on := 3, ground := Ground.phase }, { on := 4, ground := Ground.phase }, { on := 5, ground := Ground.phase }, { on := 6, ground := Ground.phase }, { on := 7, ground := Ground.phase }, { on := 8, ground := Ground.phase }, { on := 9, ground := Ground.phase }, { on := 10, ground := Ground.phase }, { on := 11, ground := Ground.phase }, { on := 12, ground := Ground.phase }, { on := 13, ground := Ground.phase }, { on := 14, ground := Ground.phase }, { on := 15, ground := Ground.phase }, { on := 16, ground := Ground.phase }], guard := none }) rfl (fun K hK => ?_) AllReadyH.nil
        go_simp
        refine hK.out _ _ (S18.out _) (fun hHeld => ?_)
        clear hK K
        try simp only [Act.put, List.setIfInBounds_toArray, List.set_cons_zero, List.set_cons_succ]
        refine wpAnyH_done (by kernel_rfl) ?_ _
        exact NoPanic.normal (HQ.out _ _ _ _ ⟨rfl, rfl, rfl, rfl, rfl, rfl, rfl⟩ HFIN.out)
      · skip
        refine step_app _ rfl (.tmp 48) (.tmp 53) 45 rfl w1.heap.size 3 (.int .i64 0) 1 8 Try.underlying45 info_int rfl (by decide) (.slice ao8 la cap8) la (ivs A) rfl O8.out ai' lb ci' (ivs B) rfl (SB.out _ KW.out) B14.out.1 B14.out.2 KW.out.size ?_
        intro v14 w14 o14 g14 n14
        have KW2 := Lib.hid (show Kept Nix w1 w14 from KW.out.grown g14 (fun kk hkk => .inr (O8.out.lt kk hkk).1))
        have O14 := Lib.hid o14
        obtain ⟨ao14, cap14, rfl, -, -⟩ := owns_shape o14
        clear o14 g14 n14
        refine hK.out _ _ (HS.out _ KW2.out) (fun hHeld => ?_)
        clear hK K
        try simp only [Act.put, List.setIfInBounds_toArray, List.set_cons_zero, List.set_cons_succ]
        clear KW; have KW := KW2; clear KW2
        refine wpAnyH_ready (rs := [1, 15]) (by kernel_rfl) (by simp) ?_
        refine AllReadyH.cons (o := { dst := some 41, op := Op.load 22 (Operand.tmp 40), type := 22, pos := "ref.go:155", after := #[{ on := 0, ground := Ground.data }], guard := none }) rfl (fun K hK => ?_) (AllReadyH.cons (o := { dst := some 55, op := Op.buildSlice 22 1 #[(0, Operand.tmp 54)], type := 22, pos := "ref.go:155", after := #[{ on := 14, ground := Ground.data }], guard := none }) rfl (fun K hK => ?_) AllReadyH.nil)
        · skip
          have c6 := C6.out _ KW.out
          go_simp
          refine hK.out _ _ (HS.out _ KW.out) (fun hHeld => ?_)
          clear hK K
          try simp only [Act.put, List.setIfInBounds_toArray, List.set_cons_zero, List.set_cons_succ]
          clear c6
          refine wpAnyH_ready (rs := [15]) (by kernel_rfl) (by simp) ?_
          refine AllReadyH.cons (o := { dst := some 55, op := Op.buildSlice 22 1 #[(0, Operand.tmp 54)], type := 22, pos := "ref.go:155", after := #[{ on := 14, ground := Ground.data }], guard := none }) rfl (fun K hK => ?_) AllReadyH.nil
          go_simp
          have KW2 := Lib.hid (show Kept Nix w1 (w14.alloc (.cells #[.slice ao14 (la + lb) cap14] 45)) from KW.out.alloc _)
          refine hK.out _ _ (HS.out _ KW2.out) (fun hHeld => ?_)
          clear hK K
          try simp only [Act.put, List.setIfInBounds_toArray, List.set_cons_zero, List.set_cons_succ]
          clear KW; have KW := KW2; clear KW2
          refine wpAnyH_ready (rs := [16]) (by kernel_rfl) (by simp) ?_
          refine AllReadyH.cons (o := { dst := some 56, op := Op.call { callee := Callee.builtin Builtin.append, args := #[Operand.tmp 41, Operand.tmp 55], argTypes := #[22, 22] }, type := 22, pos := "ref.go:155", after := #[{ on := 1, ground := Ground.data }, { on := 15, ground := Ground.data }, { on := 14, ground := Ground.chain }], guard := none }) rfl (fun K hK => ?_) AllReadyH.nil
          have OWN := Lib.hid (KW.out.owns HRK.out.1 (fun _ _ h => h))
          refine step_app _ rfl (.tmp 41) (.tmp 55) 22 rfl w.heap.size 45 (.slice none 0 0) 1 24 Try.underlying22 info_ints rfl (by decide) (.slice vo us.length vcap) us.length us rfl OWN.out (some ⟨w14.heap.size, 0, none⟩) 1 1 [.slice ao14 (la + lb) cap14] rfl (src_one w14 _ _ rfl) B16.out.1 B16.out.2 (Nat.le_trans HK.out.size KW.out.size) ?_
          intro v16 w16 o16 g16 n16
          obtain ⟨b16, cap16, rfl, _⟩ := owns_pos o16 (Nat.succ_pos _)
          have OU := Lib.hid (show (w14.alloc (.cells #[.slice ao14 (la + lb) cap14] 45)).ownsRow w.heap.size 3 1 (.slice ao14 (la + lb) cap14) (A ++ B).length (ivs (A ++ B)) from by rw [List.length_append, HLA.out, HLB.out, ivs_append]; exact (owns_weak O14.out HK.out.size).alloc _)
          obtain ⟨s1, s2, s3, s4⟩ := rack_step (zs := A ++ B) HK.out H6.out HRK.out KW.out OU.out o16 g16 HP6.out
          have q6 := P6.out _ w16 KW.out g16
          have hc9 := cell_of (i := 2) q6.1
          have hf9 := frozen_of (i := 2) q6.1
          have S18 := Lib.hid (fun v => HS18.out w16 v q6.2)
          have HFIN := Lib.hid (And.intro s1 (And.intro s2 (And.intro s3 s4)))
          have HS16 := Lib.hid q6.2
          clear o16 g16 n16 s1 s2 s3 s4 q6
          refine hK.out _ _ (HS16.out) (fun hHeld => ?_)
          clear hK K
          try simp only [Act.put, List.setIfInBounds_toArray, List.set_cons_zero, List.set_cons_succ]
          refine wpAnyH_take (i := 17) (oi := { dst := some 57, op := Op.fieldAddr 24 (Operand.tmp 6) 2, type := 0, pos := "ref.go:155", after := #[{ on := 0, ground := Ground.phase }, { on := 1, ground := Ground.phase }, { on := 2, ground := Ground.phase }, { on := 3, ground := Ground.phase }, { on := 4, ground := Ground.phase }, { on := 5, ground := Ground.phase }, { on := 6, ground := Ground.phase }, { on := 7, ground := Ground.phase }, { on := 8, ground := Ground.phase }, { on := 9, ground := Ground.phase }, { on := 10, ground := Ground.phase }, { on := 11, ground := Ground.phase }, { on := 12, ground := Ground.phase }, { on := 13, ground := Ground.phase }, { on := 14, ground := Ground.phase }, { on := 15, ground := Ground.phase }, { on := 16, ground := Ground.phase }], guard := none }) (v := ?_) rfl (by kernel_rfl) (by kernel_rfl) (by kernel_rfl) (fun _ _ _ h => h) (Or.inl ⟨by rfl, ?_⟩) (by assumption) ?_
          rotate_left
          · intro wz hz
            obtain ⟨z1, z2, z3, z4⟩ := hz
            go_simp
            try with_reducible rfl
          simp only [Act.put, List.setIfInBounds_toArray, List.set_cons_zero, List.set_cons_succ]
          refine wpAnyH_ready (rs := [18]) (by kernel_rfl) (by simp) ?_
          refine AllReadyH.cons (o := { dst := none, op := Op.store 22 (Operand.tmp 57) (Operand.tmp 56), type := 0, pos := "ref.go:155", after := #[{ on := 17, ground := Ground.data }, { on := 16, ground := Ground.data }, { on := 16, ground := Ground.chain }, { on := 0, ground := Ground.phase }, { on := 1, ground := Ground.phase }, { on := 2, ground := Ground.phase }, { on := 3, ground := Ground.phase }, { on := 4, ground := Ground.phase }, { on := 5, ground := Ground.phase }, { on := 6, ground := Ground.phase }, { on := 7, ground := Ground.phase }, { on := 8, ground := Ground.phase }, { on := 9, ground := Ground.phase }, { on := 10, ground := Ground.phase }, { on := 11, ground := Ground.phase }, { on := 12, ground := Ground.phase }, { on := 13, ground := Ground.phase }, { on := 14, ground := Ground.phase }, { on := 15, ground := Ground.phase }, { on := 16, ground := Ground.phase }], guard := none }) rfl (fun K hK => ?_) AllReadyH.nil
          go_simp
          refine hK.out _ _ (S18.out _) (fun hHeld => ?_)
          clear hK K
          try simp only [Act.put, List.setIfInBounds_toArray, List.set_cons_zero, List.set_cons_succ]
          refine wpAnyH_done (by kernel_rfl) ?_ _
          exact NoPanic.normal (HQ.out _ _ _ _ ⟨rfl, rfl, rfl, rfl, rfl, rfl, rfl⟩ HFIN.out)
        · skip
          go_simp
          have KW2 := Lib.hid (show Kept Nix w1 (w14.alloc (.cells #[.slice ao14 (la + lb) cap14] 45)) from KW.out.alloc _)
          refine hK.out _ _ (HS.out _ KW2.out) (fun hHeld => ?_)
          clear hK K
          try simp only [Act.put, List.setIfInBounds_toArray, List.set_cons_zero, List.set_cons_succ]
          clear KW; have KW := KW2; clear KW2
          refine wpAnyH_ready (rs := [1]) (by kernel_rfl) (by simp) ?_
          refine AllReadyH.cons (o := { dst := some 41, op := Op.load 22 (Operand.tmp 40), type := 22, pos := "ref.go:155", after := #[{ on := 0, ground := Ground.data }], guard := none }) rfl (fun K hK => ?_) AllReadyH.nil
          have c6 := C6.out _ KW.out
          go_simp
          refine hK.out _ _ (HS.out _ KW.out) (fun hHeld => ?_)
          clear hK K
          try simp only [Act.put, List.setIfInBounds_toArray, List.set_cons_zero, List.set_cons_succ]
          clear c6
          refine wpAnyH_ready (rs := [16]) (by kernel_rfl) (by simp) ?_
          refine AllReadyH.cons (o := { dst := some 56, op := Op.call { callee := Callee.builtin Builtin.append, args := #[Operand.tmp 41, Operand.tmp 55], argTypes := #[22, 22] }, type := 22, pos := "ref.go:155", after := #[{ on := 1, ground := Ground.data }, { on := 15, ground := Ground.data }, { on := 14, ground := Ground.chain }], guard := none }) rfl (fun K hK => ?_) AllReadyH.nil
          have OWN := Lib.hid (KW.out.owns HRK.out.1 (fun _ _ h => h))
          refine step_app _ rfl (.tmp 41) (.tmp 55) 22 rfl w.heap.size 45 (.slice none 0 0) 1 24 Try.underlying22 info_ints rfl (by decide) (.slice vo us.length vcap) us.length us rfl OWN.out (some ⟨w14.heap.size, 0, none⟩) 1 1 [.slice ao14 (la + lb) cap14] rfl (src_one w14 _ _ rfl) B16.out.1 B16.out.2 (Nat.le_trans HK.out.size KW.out.size) ?_
          intro v16 w16 o16 g16 n16
          obtain ⟨b16, cap16, rfl, _⟩ := owns_pos o16 (Nat.succ_pos _)
          have OU := Lib.hid (show (w14.alloc (.cells #[.slice ao14 (la + lb) cap14] 45)).ownsRow w.heap.size 3 1 (.slice ao14 (la + lb) cap14) (A ++ B).length (ivs (A ++ B)) from by rw [List.length_append, HLA.out, HLB.out, ivs_append]; exact (owns_weak O14.out HK.out.size).alloc _)
          obtain ⟨s1, s2, s3, s4⟩ := rack_step (zs := A ++ B) HK.out H6.out HRK.out KW.out OU.out o16 g16 HP6.out
          have q6 := P6.out _ w16 KW.out g16
          have hc9 := cell_of (i := 2) q6.1
          have hf9 := frozen_of (i := 2) q6.1
          have S18 := Lib.hid (fun v => HS18.out w16 v q6.2)
          have HFIN := Lib.hid (And.intro s1 (And.intro s2 (And.intro s3 s4)))
          have HS16 := Lib.hid q6.2
          clear o16 g16 n16 s1 s2 s3 s4 q6
          refine hK.out _ _ (HS16.out) (fun hHeld => ?_)
          clear hK K
          try simp only [Act.put, List.setIfInBounds_toArray, List.set_cons_zero, List.set_cons_succ]
          refine wpAnyH_take (i := 17) (oi := { dst := some 57, op := Op.fieldAddr 24 (Operand.tmp 6) 2, type := 0, pos := "ref.go:155", after := #[{ on := 0, ground := Ground.phase }, { on := 1, ground := Ground.phase }, { on := 2, ground := Ground.phase }, { on := 3, ground := Ground.phase }, { on := 4, ground := Ground.phase }, { on := 5, ground := Ground.phase }, { on := 6, ground := Ground.phase }, { on := 7, ground := Ground.phase }, { on := 8, ground := Ground.phase }, { on := 9, ground := Ground.phase }, { on := 10, ground := Ground.phase }, { on := 11, ground := Ground.phase }, { on := 12, ground := Ground.phase }, { on := 13, ground := Ground.phase }, { on := 14, ground := Ground.phase }, { on := 15, ground := Ground.phase }, { on := 16, ground := Ground.phase }], guard := none }) (v := ?_) rfl (by kernel_rfl) (by kernel_rfl) (by kernel_rfl) (fun _ _ _ h => h) (Or.inl ⟨by rfl, ?_⟩) (by assumption) ?_
          rotate_left
          · intro wz hz
            obtain ⟨z1, z2, z3, z4⟩ := hz
            go_simp
            try with_reducible rfl
          simp only [Act.put, List.setIfInBounds_toArray, List.set_cons_zero, List.set_cons_succ]
          refine wpAnyH_ready (rs := [18]) (by kernel_rfl) (by simp) ?_
          refine AllReadyH.cons (o := { dst := none, op := Op.store 22 (Operand.tmp 57) (Operand.tmp 56), type := 0, pos := "ref.go:155", after := #[{ on := 17, ground := Ground.data }, { on := 16, ground := Ground.data }, { on := 16, ground := Ground.chain }, { on := 0, ground := Ground.phase }, { on := 1, ground := Ground.phase }, { on := 2, ground := Ground.phase }, { on := 3, ground := Ground.phase }, { on := 4, ground := Ground.phase }, { on := 5, ground := Ground.phase }, { on := 6, ground := Ground.phase }, { on := 7, ground := Ground.phase }, { on := 8, ground := Ground.phase }, { on := 9, ground := Ground.phase }, { on := 10, ground := Ground.phase }, { on := 11, ground := Ground.phase }, { on := 12, ground := Ground.phase }, { on := 13, ground := Ground.phase }, { on := 14, ground := Ground.phase }, { on := 15, ground := Ground.phase }, { on := 16, ground := Ground.phase }], guard := none }) rfl (fun K hK => ?_) AllReadyH.nil
          go_simp
          refine hK.out _ _ (S18.out _) (fun hHeld => ?_)
          clear hK K
          try simp only [Act.put, List.setIfInBounds_toArray, List.set_cons_zero, List.set_cons_succ]
          refine wpAnyH_done (by kernel_rfl) ?_ _
          exact NoPanic.normal (HQ.out _ _ _ _ ⟨rfl, rfl, rfl, rfl, rfl, rfl, rfl⟩ HFIN.out)

end Go.Proofs.Ytpiongdkfebchaa
