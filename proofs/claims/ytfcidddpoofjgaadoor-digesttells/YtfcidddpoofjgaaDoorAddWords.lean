/- The statement of Add that changes the words: a region that loads, calls, and stores where it loaded. -/
import Derived.Test.YtfcidddpoofjgaaDoorAddMath
import Derived.Deep.RegionLaw
import Derived.Deep.RegionHeld3
namespace Go.Proofs.YtfcidddpoofjgaaDoor
open Go.RowKit Bx Md

/-- A region of a function's body, by its number. -/
def regionOf (c : Code) (n : Nat) : Option Code :=
  match c with
  | .region id ops d => if id = n then some (.region id ops d) else none
  | .seq a b => (regionOf a n).orElse fun _ => regionOf b n
  | .cond _ a b => (regionOf a n).orElse fun _ => regionOf b n
  | .block _ b => regionOf b n
  | .loop b => regionOf b n
  | .scope b => regionOf b n
  | _ => none

noncomputable def addWords : Code := (regionOf (Tryd.f13.body.getD .skip) 5).getD .skip

theorem wrds_lt {B : List Nat} (h : ∀ b ∈ B, b < 256) : ∀ x ∈ wrds B, x < 4294967296 := by
  intro x hx
  obtain ⟨j, _, rfl⟩ := List.mem_map.1 hx
  exact wrd_lt h j

theorem stCells_rest (q : Quad) (n : Nat) (R : List Nat) {j : Nat} {u : Value} (hu : (u8s R)[j]? = some u) : (stCells q R n)[4 + j]? = some u := by
  have hj := (List.getElem?_eq_some_iff.1 hu).1
  unfold stCells
  rw [List.append_assoc, List.getElem?_append_right (by simp [u32s, ws]), show 4 + j - (u32s (ws q)).length = j by simp [u32s, ws], List.getElem?_append_left hj]
  exact hu

set_option maxRecDepth 100000 in
set_option maxHeartbeats 8000000 in
theorem add_words (p : Nat) (q : Quad) (R : List Nat) (n : Nat) (tm : Array Value) (w : World) (Q : Exit → Act → World → Prop) (hq : q.fits) (hR : R.length = 64) (hB : ∀ b ∈ R, b < 256) (hT : Tab w) (hh : w.heap[p]? = some (.cells (stCells q R n).toArray 49 (0, 0)))
    (hs : tm.size = 49) (h0 : tm[0]? = some (.pointer (some ⟨p, 0, none⟩))) (v : Value) (h1 : tm[1]? = some v)
    (hQ : ∀ tm' w', tm'.size = 49 → tm'[0]? = some (.pointer (some ⟨p, 0, none⟩)) → tm'[1]? = some v → w'.heap[p]? = some (.cells (stCells (blk q (wrds R)) R n).toArray 49 (0, 0)) → Kept (One p) w w' → Q .normal ⟨tm', []⟩ w') :
    addWords.wp Tryd.prog Q ⟨tm, []⟩ w := by
  obtain ⟨f, hf, hg⟩ := fr_open hs
  have e0 := hg _ _ h0
  have e1 := hg _ _ h1
  simp only [List.range, List.range.loop, List.map] at hf
  rw [e0, e1] at hf
  clear e0 e1 hg hs h0 h1
  subst hf
  have CF : Hid (∀ wx, Kept Nix w wx → wx.cell? ⟨p, 0, none⟩ = some (.int .u32 (q.a : Int)) ∧ wx.cell? ⟨p, 1, none⟩ = some (.int .u32 (q.b : Int)) ∧ wx.cell? ⟨p, 2, none⟩ = some (.int .u32 (q.c : Int)) ∧ wx.cell? ⟨p, 3, none⟩ = some (.int .u32 (q.d : Int)) ∧
      wx.frozen? ⟨p, 0, none⟩ = false ∧ wx.frozen? ⟨p, 1, none⟩ = false ∧ wx.frozen? ⟨p, 2, none⟩ = false ∧ wx.frozen? ⟨p, 3, none⟩ = false) := Lib.hid (by
    intro wx kx
    have h := kx.heap hh (fun h => h)
    refine ⟨?_, ?_, ?_, ?_, frozen_of h, frozen_of h, frozen_of h, frozen_of h⟩ <;> rw [cell_of h] <;> rfl)
  have BL : Hid (∀ wx, Kept Nix w wx → Calls Tryd.prog 22 #[.agg (u8s R).toArray] wx fun e w' => e = .returned (.agg (u32s (wrds R)).toArray) ∧ Kept Nix w w') := Lib.hid (fun wx kx =>
    (blw_any R wx hR hB).mono fun _ _ ⟨h1, h2⟩ => ⟨h1, nix_trans kx h2⟩)
  have CH : Hid (∀ wx, Kept Nix w wx → Calls Tryd.prog 21 #[.agg #[.int .u32 (q.a : Int), .int .u32 (q.b : Int), .int .u32 (q.c : Int), .int .u32 (q.d : Int)], .agg (u32s (wrds R)).toArray] wx fun e w' =>
      e = .returned (.agg #[.int .u32 ((blk q (wrds R)).a : Int), .int .u32 ((blk q (wrds R)).b : Int), .int .u32 ((blk q (wrds R)).c : Int), .int .u32 ((blk q (wrds R)).d : Int)]) ∧ Kept Nix w w') := Lib.hid (fun wx kx =>
    (changed_any q (wrds R) wx hq (by simp [wrds]) (wrds_lt hB) (hT.nix kx)).mono fun _ _ ⟨h1, h2⟩ => ⟨h1, nix_trans kx h2⟩)
  have HE : Hid (∀ wx, Kept Nix w wx → ((((wx.setCell ⟨p, 0, none⟩ (.int .u32 ((blk q (wrds R)).a : Int))).setCell ⟨p, 1, none⟩ (.int .u32 ((blk q (wrds R)).b : Int))).setCell ⟨p, 2, none⟩ (.int .u32 ((blk q (wrds R)).c : Int))).setCell ⟨p, 3, none⟩ (.int .u32 ((blk q (wrds R)).d : Int))).heap[p]? = some (.cells (stCells (blk q (wrds R)) R n).toArray 49 (0, 0)) ∧
      Kept (One p) w ((((wx.setCell ⟨p, 0, none⟩ (.int .u32 ((blk q (wrds R)).a : Int))).setCell ⟨p, 1, none⟩ (.int .u32 ((blk q (wrds R)).b : Int))).setCell ⟨p, 2, none⟩ (.int .u32 ((blk q (wrds R)).c : Int))).setCell ⟨p, 3, none⟩ (.int .u32 ((blk q (wrds R)).d : Int)))) := Lib.hid (by
    intro wx kx
    have hp : One p p := rfl
    refine ⟨?_, ((((kx.mono (fun _ h => absurd h id)).setCell (.inl hp) _).setCell (.inl hp) _).setCell (.inl hp) _).setCell (.inl hp) _⟩
    rw [heap_set (heap_set (heap_set (heap_set (kx.heap hh (fun h => h)))))]
    rw [stCells_words])
  have HRG : Hid (∀ wx, Kept Nix w wx → Kept (One p) w wx ∧ wx.rangeAt p 4 (u8s R)) := Lib.hid (by
    intro wx kx
    refine ⟨kx.mono (fun _ h => absurd h id), fun j u hu => ?_⟩
    rw [cell_of (kx.heap hh (fun h => h)), List.getElem?_toArray]
    exact stCells_rest _ _ _ hu)
  have HRS : Hid (∀ wx a b c d, Kept Nix w wx → Kept (One p) w ((((wx.setCell ⟨p, 0, none⟩ a).setCell ⟨p, 1, none⟩ b).setCell ⟨p, 2, none⟩ c).setCell ⟨p, 3, none⟩ d) ∧ ((((wx.setCell ⟨p, 0, none⟩ a).setCell ⟨p, 1, none⟩ b).setCell ⟨p, 2, none⟩ c).setCell ⟨p, 3, none⟩ d).rangeAt p 4 (u8s R)) := Lib.hid (by
    intro wx a b c d kx
    have hp : One p p := rfl
    refine ⟨((((kx.mono (fun _ h => absurd h id)).setCell (.inl hp) _).setCell (.inl hp) _).setCell (.inl hp) _).setCell (.inl hp) _, ?_⟩
    intro j u hu
    rw [cell_of (heap_set (heap_set (heap_set (heap_set (kx.heap hh (fun h => h)))))), ← stCells_rest q n R hu]
    rw [List.setIfInBounds_toArray, List.setIfInBounds_toArray, List.setIfInBounds_toArray, List.setIfInBounds_toArray, List.getElem?_toArray, List.getElem?_set_ne (by omega), List.getElem?_set_ne (by omega), List.getElem?_set_ne (by omega), List.getElem?_set_ne (by omega)])
  have hu47 := Tryd.underlying47
  have hi47 : (Tryd.prog.info? 47).map (·.size) = some (u8s R).length := by rw [u8s_length, hR]; exact size_block
  have HQ := Lib.hid hQ
  obtain ⟨ca, cb, cc, cd, za, zb, zc, zd⟩ := CF.out w (Kept.refl _ _)
  clear hq hR hB hT hh hQ
  generalize blk q (wrds R) = r at *
  generalize (u32s (wrds R)).toArray = W at *
  generalize u8s R = U at *
  unfold addWords
  conv => arg 2; whnf
  refine wp_region_noPanic ?_
  refine wp_region_held_drew (S := fun w' => Kept (One p) w w' ∧ w'.rangeAt p 4 U) (by kernel_rfl) (HRG.out _ (Kept.refl _ _).drew) (fun hHeld => ?_)
  have k0 : Kept Nix w w.drew := (Kept.refl _ _).drew
  refine wpAnyH_take (i := 0) (oi := { dst := some 36, op := Op.move (Operand.tmp 0), type := 28, pos := "digest.go:66", after := #[], guard := none }) (v := ?_) rfl (by kernel_rfl) (by kernel_rfl) (by kernel_rfl) (fun _ _ _ h => h) (Or.inl ⟨by rfl, ?_⟩) (by assumption) ?_
  rotate_left
  · intro wz hz
    go_simp
    try with_reducible rfl
  simp only [Act.put, List.setIfInBounds_toArray, List.set_cons_zero, List.set_cons_succ]
  refine wpAnyH_take (i := 1) (oi := { dst := some 37, op := Op.move (Operand.tmp 0), type := 28, pos := "digest.go:66", after := #[], guard := none }) (v := ?_) rfl (by kernel_rfl) (by kernel_rfl) (by kernel_rfl) (fun _ _ _ h => h) (Or.inl ⟨by rfl, ?_⟩) (by assumption) ?_
  rotate_left
  · intro wz hz
    go_simp
    try with_reducible rfl
  simp only [Act.put, List.setIfInBounds_toArray, List.set_cons_zero, List.set_cons_succ]
  refine wpAnyH_take (i := 2) (oi := { dst := some 38, op := Op.nilCheck (Operand.tmp 37), type := 0, pos := "digest.go:66", after := #[{ on := 1, ground := Ground.data }], guard := none }) (v := ?_) rfl (by kernel_rfl) (by kernel_rfl) (by kernel_rfl) (fun _ _ _ h => h) (Or.inl ⟨by rfl, ?_⟩) (by assumption) ?_
  rotate_left
  · intro wz hz
    go_simp
    try with_reducible rfl
  simp only [Act.put, List.setIfInBounds_toArray, List.set_cons_zero, List.set_cons_succ]
  refine wpAnyH_take (i := 3) (oi := { dst := some 39, op := Op.fieldAddr 49 (Operand.tmp 38) 0, type := 0, pos := "digest.go:66", after := #[{ on := 2, ground := Ground.data }], guard := none }) (v := ?_) rfl (by kernel_rfl) (by kernel_rfl) (by kernel_rfl) (fun _ _ _ h => h) (Or.inl ⟨by rfl, ?_⟩) (by assumption) ?_
  rotate_left
  · intro wz hz
    go_simp
    try with_reducible rfl
  simp only [Act.put, List.setIfInBounds_toArray, List.set_cons_zero, List.set_cons_succ]
  refine wpAnyH_take (i := 5) (oi := { dst := some 41, op := Op.move (Operand.tmp 0), type := 28, pos := "digest.go:66", after := #[], guard := none }) (v := ?_) rfl (by kernel_rfl) (by kernel_rfl) (by kernel_rfl) (fun _ _ _ h => h) (Or.inl ⟨by rfl, ?_⟩) (by assumption) ?_
  rotate_left
  · intro wz hz
    go_simp
    try with_reducible rfl
  simp only [Act.put, List.setIfInBounds_toArray, List.set_cons_zero, List.set_cons_succ]
  refine wpAnyH_take (i := 6) (oi := { dst := some 42, op := Op.nilCheck (Operand.tmp 41), type := 0, pos := "digest.go:66", after := #[{ on := 5, ground := Ground.data }], guard := none }) (v := ?_) rfl (by kernel_rfl) (by kernel_rfl) (by kernel_rfl) (fun _ _ _ h => h) (Or.inl ⟨by rfl, ?_⟩) (by assumption) ?_
  rotate_left
  · intro wz hz
    go_simp
    try with_reducible rfl
  simp only [Act.put, List.setIfInBounds_toArray, List.set_cons_zero, List.set_cons_succ]
  refine wpAnyH_take (i := 7) (oi := { dst := some 43, op := Op.fieldAddr 49 (Operand.tmp 42) 1, type := 0, pos := "digest.go:66", after := #[{ on := 6, ground := Ground.data }], guard := none }) (v := ?_) rfl (by kernel_rfl) (by kernel_rfl) (by kernel_rfl) (fun _ _ _ h => h) (Or.inl ⟨by rfl, ?_⟩) (by assumption) ?_
  rotate_left
  · intro wz hz
    go_simp
    try with_reducible rfl
  simp only [Act.put, List.setIfInBounds_toArray, List.set_cons_zero, List.set_cons_succ]
  refine wpAnyH_take (i := 8) (oi := { dst := some 44, op := Op.load 47 (Operand.tmp 43), type := 47, pos := "digest.go:66", after := #[{ on := 7, ground := Ground.data }], guard := none }) rfl (by kernel_rfl) (by kernel_rfl) (by kernel_rfl) (fun _ _ _ h => h) (yieldsIf_load_mid (by rfl) _ _ rfl p 4 rfl U _ (fun _ h => h.2) hu47 rfl hi47) (by assumption) ?_
  simp only [Act.put, List.setIfInBounds_toArray, List.set_cons_zero, List.set_cons_succ]
  refine wpAnyH_ready (rs := [4, 9]) (by kernel_rfl) (by simp) ?_
  refine AllReadyH.cons (o := { dst := some 40, op := Op.load 46 (Operand.tmp 39), type := 46, pos := "digest.go:66", after := #[{ on := 3, ground := Ground.data }], guard := none }) rfl (fun K hK => ?_) (AllReadyH.cons (o := { dst := some 45, op := Op.call { callee := Callee.value (Operand.func 22), args := #[Operand.tmp 44], argTypes := #[47] }, type := 51, pos := "digest.go:66", after := #[{ on := 8, ground := Ground.data }], guard := none }) rfl (fun K hK => ?_) AllReadyH.nil)
  · go_simp
    refine hK.out _ _ (HRG.out _ k0) (fun hHeld => ?_)
    clear hK K
    try simp only [Act.put, List.setIfInBounds_toArray, List.set_cons_zero, List.set_cons_succ]
    refine wpAnyH_ready (rs := [9]) (by kernel_rfl) (by simp) ?_
    refine AllReadyH.cons (o := { dst := some 45, op := Op.call { callee := Callee.value (Operand.func 22), args := #[Operand.tmp 44], argTypes := #[47] }, type := 51, pos := "digest.go:66", after := #[{ on := 8, ground := Ground.data }], guard := none }) rfl (fun K hK => ?_) AllReadyH.nil
    go_simp
    refine (BL.out _ k0).mono ?_
    rintro e wx ⟨rfl, kx⟩
    obtain ⟨xa, xb, xc, xd, ya, yb, yc, yd⟩ := CF.out wx kx
    refine hK.out _ _ (HRG.out _ kx) (fun hHeld => ?_)
    clear hK K
    try simp only [Act.put, List.setIfInBounds_toArray, List.set_cons_zero, List.set_cons_succ]
    refine wpAnyH_ready (rs := [10]) (by kernel_rfl) (by simp) ?_
    refine AllReadyH.cons (o := { dst := some 46, op := Op.call { callee := Callee.value (Operand.func 21), args := #[Operand.tmp 40, Operand.tmp 45], argTypes := #[46, 51] }, type := 46, pos := "digest.go:66", after := #[{ on := 4, ground := Ground.data }, { on := 9, ground := Ground.data }, { on := 9, ground := Ground.chain }], guard := none }) rfl (fun K hK => ?_) AllReadyH.nil
    go_simp
    refine (CH.out _ kx).mono ?_
    rintro e wy ⟨rfl, ky⟩
    clear xa xb xc xd ya yb yc yd
    obtain ⟨xa, xb, xc, xd, ya, yb, yc, yd⟩ := CF.out wy ky
    refine hK.out _ _ (HRG.out _ ky) (fun hHeld => ?_)
    clear hK K
    try simp only [Act.put, List.setIfInBounds_toArray, List.set_cons_zero, List.set_cons_succ]
    refine wpAnyH_take (i := 11) (oi := { dst := some 47, op := Op.nilCheck (Operand.tmp 36), type := 0, pos := "digest.go:66", after := #[{ on := 0, ground := Ground.data }, { on := 0, ground := Ground.phase }, { on := 1, ground := Ground.phase }, { on := 2, ground := Ground.phase }, { on := 3, ground := Ground.phase }, { on := 4, ground := Ground.phase }, { on := 5, ground := Ground.phase }, { on := 6, ground := Ground.phase }, { on := 7, ground := Ground.phase }, { on := 8, ground := Ground.phase }, { on := 9, ground := Ground.phase }, { on := 10, ground := Ground.phase }], guard := none }) (v := ?_) rfl (by kernel_rfl) (by kernel_rfl) (by kernel_rfl) (fun _ _ _ h => h) (Or.inl ⟨by rfl, ?_⟩) (by assumption) ?_
    rotate_left
    · intro wz hz
      go_simp
      try with_reducible rfl
    simp only [Act.put, List.setIfInBounds_toArray, List.set_cons_zero, List.set_cons_succ]
    refine wpAnyH_take (i := 12) (oi := { dst := some 48, op := Op.fieldAddr 49 (Operand.tmp 47) 0, type := 0, pos := "digest.go:66", after := #[{ on := 11, ground := Ground.data }, { on := 0, ground := Ground.phase }, { on := 1, ground := Ground.phase }, { on := 2, ground := Ground.phase }, { on := 3, ground := Ground.phase }, { on := 4, ground := Ground.phase }, { on := 5, ground := Ground.phase }, { on := 6, ground := Ground.phase }, { on := 7, ground := Ground.phase }, { on := 8, ground := Ground.phase }, { on := 9, ground := Ground.phase }, { on := 10, ground := Ground.phase }], guard := none }) (v := ?_) rfl (by kernel_rfl) (by kernel_rfl) (by kernel_rfl) (fun _ _ _ h => h) (Or.inl ⟨by rfl, ?_⟩) (by assumption) ?_
    rotate_left
    · intro wz hz
      go_simp
      try with_reducible rfl
    simp only [Act.put, List.setIfInBounds_toArray, List.set_cons_zero, List.set_cons_succ]
    refine wpAnyH_ready (rs := [13]) (by kernel_rfl) (by simp) ?_
    refine AllReadyH.cons (o := { dst := none, op := Op.store 46 (Operand.tmp 48) (Operand.tmp 46), type := 0, pos := "digest.go:66", after := #[{ on := 12, ground := Ground.data }, { on := 10, ground := Ground.data }, { on := 10, ground := Ground.chain }, { on := 0, ground := Ground.phase }, { on := 1, ground := Ground.phase }, { on := 2, ground := Ground.phase }, { on := 3, ground := Ground.phase }, { on := 4, ground := Ground.phase }, { on := 5, ground := Ground.phase }, { on := 6, ground := Ground.phase }, { on := 7, ground := Ground.phase }, { on := 8, ground := Ground.phase }, { on := 9, ground := Ground.phase }, { on := 10, ground := Ground.phase }], guard := none }) rfl (fun K hK => ?_) AllReadyH.nil
    go_simp
    refine hK.out _ _ (HRS.out _ _ _ _ _ ky) (fun hHeld => ?_)
    clear hK K
    try simp only [Act.put, List.setIfInBounds_toArray, List.set_cons_zero, List.set_cons_succ]
    refine wpAnyH_done (by kernel_rfl) ?_ _
    refine NoPanic.normal (HQ.out _ _ rfl rfl rfl (HE.out _ ky).1 (HE.out _ ky).2)
  · clear ca cb cc cd za zb zc zd
    go_simp
    refine (BL.out _ k0).mono ?_
    rintro e wx ⟨rfl, kx⟩
    obtain ⟨xa, xb, xc, xd, ya, yb, yc, yd⟩ := CF.out wx kx
    refine hK.out _ _ (HRG.out _ kx) (fun hHeld => ?_)
    clear hK K
    try simp only [Act.put, List.setIfInBounds_toArray, List.set_cons_zero, List.set_cons_succ]
    refine wpAnyH_ready (rs := [4]) (by kernel_rfl) (by simp) ?_
    refine AllReadyH.cons (o := { dst := some 40, op := Op.load 46 (Operand.tmp 39), type := 46, pos := "digest.go:66", after := #[{ on := 3, ground := Ground.data }], guard := none }) rfl (fun K hK => ?_) AllReadyH.nil
    go_simp
    refine hK.out _ _ (HRG.out _ kx) (fun hHeld => ?_)
    clear hK K
    try simp only [Act.put, List.setIfInBounds_toArray, List.set_cons_zero, List.set_cons_succ]
    refine wpAnyH_ready (rs := [10]) (by kernel_rfl) (by simp) ?_
    refine AllReadyH.cons (o := { dst := some 46, op := Op.call { callee := Callee.value (Operand.func 21), args := #[Operand.tmp 40, Operand.tmp 45], argTypes := #[46, 51] }, type := 46, pos := "digest.go:66", after := #[{ on := 4, ground := Ground.data }, { on := 9, ground := Ground.data }, { on := 9, ground := Ground.chain }], guard := none }) rfl (fun K hK => ?_) AllReadyH.nil
    go_simp
    refine (CH.out _ kx).mono ?_
    rintro e wy ⟨rfl, ky⟩
    clear xa xb xc xd ya yb yc yd
    obtain ⟨xa, xb, xc, xd, ya, yb, yc, yd⟩ := CF.out wy ky
    refine hK.out _ _ (HRG.out _ ky) (fun hHeld => ?_)
    clear hK K
    try simp only [Act.put, List.setIfInBounds_toArray, List.set_cons_zero, List.set_cons_succ]
    refine wpAnyH_take (i := 11) (oi := { dst := some 47, op := Op.nilCheck (Operand.tmp 36), type := 0, pos := "digest.go:66", after := #[{ on := 0, ground := Ground.data }, { on := 0, ground := Ground.phase }, { on := 1, ground := Ground.phase }, { on := 2, ground := Ground.phase }, { on := 3, ground := Ground.phase }, { on := 4, ground := Ground.phase }, { on := 5, ground := Ground.phase }, { on := 6, ground := Ground.phase }, { on := 7, ground := Ground.phase }, { on := 8, ground := Ground.phase }, { on := 9, ground := Ground.phase }, { on := 10, ground := Ground.phase }], guard := none }) (v := ?_) rfl (by kernel_rfl) (by kernel_rfl) (by kernel_rfl) (fun _ _ _ h => h) (Or.inl ⟨by rfl, ?_⟩) (by assumption) ?_
    rotate_left
    · intro wz hz
      go_simp
      try with_reducible rfl
    simp only [Act.put, List.setIfInBounds_toArray, List.set_cons_zero, List.set_cons_succ]
    refine wpAnyH_take (i := 12) (oi := { dst := some 48, op := Op.fieldAddr 49 (Operand.tmp 47) 0, type := 0, pos := "digest.go:66", after := #[{ on := 11, ground := Ground.data }, { on := 0, ground := Ground.phase }, { on := 1, ground := Ground.phase }, { on := 2, ground := Ground.phase }, { on := 3, ground := Ground.phase }, { on := 4, ground := Ground.phase }, { on := 5, ground := Ground.phase }, { on := 6, ground := Ground.phase }, { on := 7, ground := Ground.phase }, { on := 8, ground := Ground.phase }, { on := 9, ground := Ground.phase }, { on := 10, ground := Ground.phase }], guard := none }) (v := ?_) rfl (by kernel_rfl) (by kernel_rfl) (by kernel_rfl) (fun _ _ _ h => h) (Or.inl ⟨by rfl, ?_⟩) (by assumption) ?_
    rotate_left
    · intro wz hz
      go_simp
      try with_reducible rfl
    simp only [Act.put, List.setIfInBounds_toArray, List.set_cons_zero, List.set_cons_succ]
    refine wpAnyH_ready (rs := [13]) (by kernel_rfl) (by simp) ?_
    refine AllReadyH.cons (o := { dst := none, op := Op.store 46 (Operand.tmp 48) (Operand.tmp 46), type := 0, pos := "digest.go:66", after := #[{ on := 12, ground := Ground.data }, { on := 10, ground := Ground.data }, { on := 10, ground := Ground.chain }, { on := 0, ground := Ground.phase }, { on := 1, ground := Ground.phase }, { on := 2, ground := Ground.phase }, { on := 3, ground := Ground.phase }, { on := 4, ground := Ground.phase }, { on := 5, ground := Ground.phase }, { on := 6, ground := Ground.phase }, { on := 7, ground := Ground.phase }, { on := 8, ground := Ground.phase }, { on := 9, ground := Ground.phase }, { on := 10, ground := Ground.phase }], guard := none }) rfl (fun K hK => ?_) AllReadyH.nil
    go_simp
    refine hK.out _ _ (HRS.out _ _ _ _ _ ky) (fun hHeld => ?_)
    clear hK K
    try simp only [Act.put, List.setIfInBounds_toArray, List.set_cons_zero, List.set_cons_succ]
    refine wpAnyH_done (by kernel_rfl) ?_ _
    refine NoPanic.normal (HQ.out _ _ rfl rfl rfl (HE.out _ ky).1 (HE.out _ ky).2)

end Go.Proofs.YtfcidddpoofjgaaDoor
