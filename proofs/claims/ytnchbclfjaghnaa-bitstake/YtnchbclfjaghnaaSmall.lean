/- Contracts of the remaining functions of package bits, and of the reference's Same. -/
import Derived.Test.YtnchbclfjaghnaaPut
import Derived.Test.YtnchbclfjaghnaaReader
namespace Go.Proofs.Ytnchbclfjaghnaa
open Go.RowKit Bx

/-- A slice that reads as these cells, wherever it lies. -/
def Sl (w : World) (v : Value) (xs : List Value) : Prop :=
  ∃ ao cap, v = .slice ao xs.length cap ∧ xs.length ≤ cap ∧ cap ≤ maxLen ∧ (ao = none → cap = 0) ∧
    (0 < xs.length → ∃ b off, ao = some ⟨b, off, none⟩ ∧ b < w.heap.size ∧ ∀ j u, xs[j]? = some u → w.cell? ⟨b, off + j, none⟩ = some u)

theorem sl_of_owns {w : World} {base : Nat} {e : TypeId} {v : Value} {n : Nat} {xs : List Value} (h : w.ownsRow base e 1 v n xs) : Sl w v xs := by
  have hn : xs.length = n := by simpa using h.1
  rcases h.2 with ⟨rfl, rfl⟩ | ⟨g, cap, cur, rfl, hb, hg, h1, h2, _⟩
  · exact ⟨none, 0, by rw [hn], by omega, by simp [maxLen], fun _ => rfl, fun h => by omega⟩
  · refine ⟨_, cap, by rw [hn], by omega, h2, fun h => by simp at h, fun _ => ⟨g, 0, rfl, lt_of_heap hg, fun j u hu => ?_⟩⟩
    have := h.cells (g := g) rfl j u hu
    rwa [Addr.add_lit] at this

theorem src_of_sl {w : World} {v : Value} {xs : List Value} (h : Sl w v xs) (h1 : ∀ u ∈ xs, u.oneCell' = true) : ∃ ao cap, v = .slice ao xs.length cap ∧ SrcIs w 1 ao xs.length cap xs := by
  obtain ⟨ao, cap, rfl, hc, hm, hno, hp⟩ := h
  refine ⟨ao, cap, rfl, by simp, fun e => ⟨by have := hno e; omega, hno e⟩, ?_, h1⟩
  rintro ad rfl j u hu
  have hj := (List.getElem?_eq_some_iff.1 hu).1
  obtain ⟨b, off, e, _, hh⟩ := hp (by omega)
  obtain rfl := Option.some.inj e
  rw [Addr.add_lit]
  exact hh j u hu

theorem Sl.kept {w w' : World} {v : Value} {xs : List Value} {S : Nat → Prop} (h : Sl w v xs) (hk : Kept S w w') (hS : ∀ b, b < w.heap.size → ¬ S b) : Sl w' v xs := by
  obtain ⟨ao, cap, rfl, hc, hm, hno, hp⟩ := h
  refine ⟨ao, cap, rfl, hc, hm, hno, fun h0 => ?_⟩
  obtain ⟨b, off, e, hb, hh⟩ := hp h0
  exact ⟨b, off, e, Nat.lt_of_lt_of_le hb hk.size, fun j u hu => (World.cell?_of_block (hk.block b hb (hS b hb))).trans (hh j u hu)⟩

theorem SrcIs.alloc {w : World} {size : Nat} {ao : Option Addr} {m c : Nat} {news : List Value} (h : SrcIs w size ao m c news) (o : Obj) : SrcIs (w.alloc o) size ao m c news := by
  obtain ⟨h1, h2, h3, h4⟩ := h
  refine ⟨h1, h2, fun ad e j u hu => ?_, h4⟩
  have hc := h3 ad e j u hu
  exact (World.cell?_of_block (Below.heap_alloc _ _ _ (World.block_lt_of_cell? w _ hc))).trans hc

def NewPost (base : Nat) (w : World) (e : Ending) (w' : World) : Prop :=
  ∃ p, e = .returned (.pointer (some ⟨p, 0, none⟩)) ∧ w.heap.size ≤ p ∧ Wr base w' p (.slice none 0 0) 0 0 0 ∧ Kept Nix w w'

set_option maxHeartbeats 400000 in
theorem new_any (base : Nat) (w : World) (hb : base ≤ w.heap.size) : Calls Try.prog 10 #[] w (NewPost base w) := by
  go_enter Try.func10, Try.ntmps10
  go_wp2
  go_ret
  refine ⟨w.heap.size, rfl, Nat.le_refl _, ⟨hb, heap_alloc_new w _, by simp [Value.ownBlock], [], World.ownsRow_nil _ _ _ _, pk_nil⟩, (Kept.refl _ _).alloc _⟩

set_option maxHeartbeats 400000 in
theorem len_any (base p : Nat) (v : Value) (N c r : Nat) (w : World) (h : Wr base w p v N c r) : Calls Try.prog 14 #[.pointer (some ⟨p, 0, none⟩)] w fun e w' => e = .returned (.int .i64 (c : Int)) ∧ w = w' := by
  have hc1 := cell_of (i := 1) h.2.1
  simp only [List.getElem?_toArray, List.getElem?_cons_zero, List.getElem?_cons_succ] at hc1
  clear h
  go_enter Try.func14, Try.ntmps14
  go_wp2
  go_ret
  exact ⟨rfl, rfl⟩

/-- A writer filled: as many bits 0 as are missing to a byte. -/
def pad (c : Nat) : Nat := (8 - c % 8) % 8

set_option maxHeartbeats 400000 in
theorem wfill_any (base p : Nat) (v : Value) (N c : Nat) (w : World) (hw : Wr base w p v N c ((8 - c % 8) % 8)) (hc : c < 1099511627776) (hb : base ≤ w.heap.size) :
    Calls Try.prog 13 #[.pointer (some ⟨p, 0, none⟩)] w fun e w' => e = .returned (.tuple #[]) ∧ PutPost base w p v (N * 2 ^ pad c) (c + pad c) w' := by
  have hc1 := cell_of (i := 1) hw.2.1
  simp only [List.getElem?_toArray, List.getElem?_cons_zero, List.getElem?_cons_succ] at hc1
  have hpad : wid ((pad c : Nat) : Int) = pad c := by unfold wid pad; omega
  have hput := put_any base p v N c 0 ((pad c : Nat) : Int) w hw hc hb
  rw [hpad, Nat.zero_mod, Nat.add_zero] at hput
  have HP := Lib.hid hput
  clear hput hpad hw
  go_enter Try.func13, Try.ntmps13
  go_wp2_with (first | (go_at_call 30; refine (toByte_any _ _ (by omega)).mono ?_; rintro e w' ⟨rfl, rfl⟩) | (go_at_call 11; refine (HP.out).mono ?_; rintro e w' ⟨rfl, hpost⟩))
  go_end0
  exact ⟨rfl, hpost⟩

def ClonePost (base : Nat) (w : World) (B : List Nat) (e : Ending) (w' : World) : Prop :=
  ∃ v', e = .returned v' ∧ w'.ownsRow base 5 1 v' B.length (u8s B) ∧ Kept Nix w w' ∧ ∀ k, v'.ownBlock = some k → w.heap.size ≤ k

set_option maxHeartbeats 400000 in
theorem clone_any (base : Nat) (v : Value) (B : List Nat) (w : World) (h : Sl w v (u8s B)) (hl : B.length < 1099511627776) (hb : base ≤ w.heap.size) : Calls Try.prog 33 #[v] w (ClonePost base w B) := by
  obtain ⟨ao, cap, rfl, hsrc⟩ := src_of_sl h (u8s_one B)
  have heq := fun wx => Lib.run_eql_slice_nil (P := Try.prog) wx 33 5 ao (u8s B).length cap 0 0 Try.underlying33
  rw [u8s_length] at *
  cases ao with
  | none =>
    obtain ⟨h0, rfl⟩ := hsrc.2.1 rfl
    have hB : B = [] := List.eq_nil_of_length_eq_zero h0
    subst hB
    simp only [List.length_nil] at heq ⊢
    clear hsrc h h0
    go_enter Try.func33, Try.ntmps33
    go_wp2
    go_ret
    exact ⟨_, rfl, World.ownsRow_nil _ _ _ _, Kept.refl _ _, fun k hk => by simp [Value.ownBlock] at hk⟩
  | some ad =>
    have HS := Lib.hid hsrc
    clear hsrc h
    go_enter Try.func33, Try.ntmps33
    go_wp2_with (at_builtin; refine wpList_app _ rfl (.tmp 5) (.tmp 6) 33 rfl base 5 (.int .u8 0) 1 1 Try.underlying33 info_u8 rfl (by decide) (.slice (some ⟨w.heap.size, 0, none⟩) 0 0) 0 [] rfl ?_ (some ad) B.length cap (u8s B) rfl ?_ ?_ ?_ ?_ ?_)
    · exact World.ownsRow_made w #[] 0 hb (by simp [maxLen]) rfl
    · exact HS.out.alloc _
    · simp only [maxLen]; omega
    · omega
    · simp; omega
    · intro v1 w1 ho1 hg1 hv1
      go_wp2
      go_ret
      refine ⟨v1, rfl, ho1, ((Kept.refl _ w).alloc _).grown hg1 (fun k hk => .inr ?_), fun k hk => ?_⟩
      · simp only [Value.ownBlock, Option.some.injEq] at hk; omega
      · rcases hv1 with h | h
        · rw [h] at hk; simp only [Value.ownBlock, Option.some.injEq] at hk; omega
        · rw [h] at hk; simp only [Option.some.injEq] at hk; omega

set_option maxHeartbeats 400000 in
theorem bytes_any (base p : Nat) (v : Value) (N c r : Nat) (B : List Nat) (w : World) (h : w.heap[p]? = some (.cells #[v, .int .i64 c] 52 (0, 0))) (ho : w.ownsRow base 5 1 v B.length (u8s B)) (hpk : Pk B N c r) (hc : c < 1099511627776) (hr : r ≤ 8) (hb : base ≤ w.heap.size) :
    Calls Try.prog 16 #[.pointer (some ⟨p, 0, none⟩)] w (ClonePost base w B) := by
  have hc0 := cell_of (i := 0) h
  simp only [List.getElem?_toArray, List.getElem?_cons_zero] at hc0
  have hlen := hpk.2.1
  have HC := Lib.hid (clone_any base v B w (sl_of_owns ho) (by omega) hb)
  obtain ⟨ao, cap, rfl, hcap, hmax⟩ := owns_shape ho
  clear h ho hpk hlen hcap
  go_enter Try.func16, Try.ntmps16
  go_wp2_with (go_at_call 33; refine HC.out.mono ?_; rintro e w' ⟨v', rfl, h1, h2, h3⟩)
  go_ret
  exact ⟨v', rfl, h1, h2, h3⟩

def OpenPost (base : Nat) (w : World) (B : List Nat) (e : Ending) (w' : World) : Prop :=
  ∃ q v', e = .returned (.pointer (some ⟨q, 0, none⟩)) ∧ w.heap.size ≤ q ∧ Rd base w' q v' B 0 0 ∧ Kept Nix w w' ∧ ∀ k, v'.ownBlock = some k → w.heap.size ≤ k

set_option maxHeartbeats 400000 in
theorem open_any (base : Nat) (v : Value) (B : List Nat) (w : World) (h : Sl w v (u8s B)) (hB : ∀ b ∈ B, b < 256) (hl : B.length < 1099511627776) (hb : base ≤ w.heap.size) : Calls Try.prog 18 #[v] w (OpenPost base w B) := by
  have HC := Lib.hid (clone_any base v B w h hl hb)
  obtain ⟨ao, cap, rfl, _⟩ := h
  go_enter Try.func18, Try.ntmps18
  go_wp2_with (go_at_call 33; refine HC.out.mono ?_; rintro e w' ⟨v', rfl, h1, h2, h3⟩; obtain ⟨ao', cap', rfl, hc', hm'⟩ := owns_shape h1)
  go_ret
  refine ⟨w'.heap.size, _, rfl, h2.size, ⟨Nat.le_trans hb h2.size, heap_alloc_new w' _, ?_, h1.alloc _, hB, Nat.zero_le _⟩, h2.alloc _, h3⟩
  intro e
  have := (h1.lt _ e).2
  omega

set_option maxHeartbeats 400000 in
theorem at_any (base q : Nat) (v : Value) (B : List Nat) (at_ fl : Nat) (w : World) (h : Rd base w q v B at_ fl) : Calls Try.prog 25 #[.pointer (some ⟨q, 0, none⟩)] w fun e w' => e = .returned (.int .i64 (at_ : Int)) ∧ w = w' := by
  have hc1 := cell_of (i := 1) h.2.1
  simp only [List.getElem?_toArray, List.getElem?_cons_zero, List.getElem?_cons_succ] at hc1
  clear h
  go_enter Try.func25, Try.ntmps25
  go_wp2
  go_ret
  exact ⟨rfl, rfl⟩

set_option maxHeartbeats 400000 in
theorem fail_any (base q : Nat) (v : Value) (B : List Nat) (at_ fl : Nat) (w : World) (h : Rd base w q v B at_ fl) : Calls Try.prog 26 #[.pointer (some ⟨q, 0, none⟩)] w fun e w' => e = .returned (.int .i64 (fl : Int)) ∧ w = w' := by
  have hc1 := cell_of (i := 2) h.2.1
  simp only [List.getElem?_toArray, List.getElem?_cons_zero, List.getElem?_cons_succ] at hc1
  clear h
  go_enter Try.func26, Try.ntmps26
  go_wp2
  go_ret
  exact ⟨rfl, rfl⟩

/-- What End tells. -/
def rend (B : List Nat) (at_ fl : Nat) : Nat := bif decide (fl = 0) && decide (at_ < 8 * B.length) then 3 else fl

set_option maxHeartbeats 400000 in
theorem end_any (base q : Nat) (v : Value) (B : List Nat) (at_ fl : Nat) (w : World) (h : Rd base w q v B at_ fl) (hl : 8 * B.length < 1099511627776) : Calls Try.prog 27 #[.pointer (some ⟨q, 0, none⟩)] w fun e w' => e = .returned (.int .i64 ((rend B at_ fl : Nat) : Int)) ∧ ∃ n, w' = w.drewN n := by
  have hc2 := cell_of (i := 2) h.2.1
  simp only [List.getElem?_toArray, List.getElem?_cons_zero, List.getElem?_cons_succ] at hc2
  have HL := Lib.hid (left_any base q v B at_ fl w h hl)
  have hle := h.2.2.2.2.2
  by_cases hf : fl = 0
  · subst hf
    by_cases ha : at_ < 8 * B.length
    · have e1 : rend B at_ 0 = 3 := by simp [rend, ha]
      have ht : decide ((0 : Int) < ((8 * B.length - at_ : Nat) : Int)) = true := by simp; omega
      have ht2 : 0 < 8 * B.length - at_ := by omega
      rw [e1]
      clear e1 h
      go_enter Try.func27, Try.ntmps27
      go_wp2_with (go_at_call 24; refine HL.out.mono ?_; rintro e w' ⟨rfl, n1, rfl⟩)
      go_ret
      exact ⟨rfl, n1, rfl⟩
    · have e1 : rend B at_ 0 = 0 := by simp [rend, ha]
      have ht : decide ((0 : Int) < ((8 * B.length - at_ : Nat) : Int)) = false := by simp; omega
      have ht2 : ¬ 0 < 8 * B.length - at_ := by omega
      rw [e1]
      clear e1 h
      go_enter Try.func27, Try.ntmps27
      go_wp2_with (go_at_call 24; refine HL.out.mono ?_; rintro e w' ⟨rfl, n1, rfl⟩)
      go_ret
      exact ⟨rfl, n1, rfl⟩
  · have e1 : rend B at_ fl = fl := by simp [rend, hf]
    have ht : ((fl : Int) == 0) = false := by simp; omega
    rw [e1]
    clear e1 h
    go_enter Try.func27, Try.ntmps27
    go_wp2_with (go_at_call 24; refine HL.out.mono ?_; rintro e w' ⟨rfl, n1, rfl⟩)
    go_ret
    exact ⟨rfl, 0, rfl⟩

/-- Where Fill leaves the reader. -/
def fat (B : List Nat) (at_ fl : Nat) : Nat := bif rval B at_ fl (pad at_) != 0 then at_ else rat B at_ fl (pad at_)
def ffail (B : List Nat) (at_ fl : Nat) : Nat := bif rval B at_ fl (pad at_) != 0 then 5 else rfail B at_ fl (pad at_)

set_option maxHeartbeats 400000 in
theorem rfill_any (base q : Nat) (v : Value) (B : List Nat) (at_ fl : Nat) (w : World) (h : Rd base w q v B at_ fl) (hl : 8 * B.length < 1099511627776) :
    Calls Try.prog 20 #[.pointer (some ⟨q, 0, none⟩)] w fun e w' => e = .returned (.tuple #[]) ∧ RdPost base w q v B (fat B at_ fl) (ffail B at_ fl) w' := by
  have hc1 := cell_of (i := 1) h.2.1
  simp only [List.getElem?_toArray, List.getElem?_cons_zero, List.getElem?_cons_succ] at hc1
  have hle := h.2.2.2.2.2
  have hpad : wid ((pad at_ : Nat) : Int) = pad at_ := by unfold wid pad; omega
  have ht := take_any base q v B at_ fl ((pad at_ : Nat) : Int) w h hl
  rw [hpad] at ht
  have HT := Lib.hid ht
  clear ht hpad h
  by_cases hz : rval B at_ fl (pad at_) = 0
  · have e1 : fat B at_ fl = rat B at_ fl (pad at_) := by simp [fat, hz]
    have e2 : ffail B at_ fl = rfail B at_ fl (pad at_) := by simp [ffail, hz]
    have hz1 : (((rval B at_ fl (pad at_) : Nat) : Int) != 0) = false := by simp [hz]
    rw [e1, e2]
    clear e1 e2 hz
    go_enter Try.func20, Try.ntmps20
    go_wp2_with (first | (go_at_call 30; refine (toByte_any _ _ (by omega)).mono ?_; rintro e w' ⟨rfl, rfl⟩) | (go_at_call 22; refine HT.out.mono ?_; rintro e w' ⟨rfl, hpost⟩))
    go_end0
    exact ⟨rfl, hpost⟩
  · have hb : (rval B at_ fl (pad at_) != 0) = true := bne_iff_ne.2 hz
    have e1 : fat B at_ fl = at_ := by simp [fat, hb]
    have e2 : ffail B at_ fl = 5 := by simp [ffail, hb]
    have hz1 : (((rval B at_ fl (pad at_) : Nat) : Int) != 0) = true := by simp; omega
    rw [e1, e2]
    clear e1 e2 hb
    go_enter Try.func20, Try.ntmps20
    go_wp2_with (first | (go_at_call 30; refine (toByte_any _ _ (by omega)).mono ?_; rintro e w' ⟨rfl, rfl⟩) | (go_at_call 22; refine HT.out.mono ?_; rintro e w' ⟨rfl, hpost, hkp⟩; have hd1 := cell_of (i := 1) hpost.2.1; have hd2 := cell_of (i := 2) hpost.2.1; have hz1 := frozen_of (i := 1) hpost.2.1; have hz2 := frozen_of (i := 2) hpost.2.1; simp only [List.getElem?_toArray, List.getElem?_cons_zero, List.getElem?_cons_succ] at hd1 hd2))
    go_end0
    exact ⟨rfl, (hpost.move at_ hle).failed 5, (hkp.setCell (p := ⟨q, 1, none⟩) (.inl rfl) _).setCell (p := ⟨q, 2, none⟩) (.inl rfl) _⟩

/-- The cell of a slice of bytes at an index, as the walk asks for it. -/
theorem Sl.cells {w : World} {v : Value} {B : List Nat} (h : Sl w v (u8s B)) (h0 : 0 < B.length) : ∃ b off cap, v = .slice (some ⟨b, off, none⟩) B.length cap ∧ B.length ≤ cap ∧ cap ≤ maxLen ∧ ∀ j, j < B.length → w.cell? ⟨b, off + j, none⟩ = some (.int .u8 ((B.getD j 0 : Nat) : Int)) := by
  obtain ⟨ao, cap, rfl, hc, hm, hno, hp⟩ := h
  rw [u8s_length] at *
  obtain ⟨b, off, rfl, _, hh⟩ := hp h0
  exact ⟨b, off, cap, rfl, hc, hm, fun j hj => hh j _ (u8s_get B j hj)⟩

theorem Sl.shape {w : World} {v : Value} {B : List Nat} (h : Sl w v (u8s B)) : ∃ ao cap, v = .slice ao B.length cap := by
  obtain ⟨ao, cap, rfl, _⟩ := h
  rw [u8s_length]
  exact ⟨ao, cap, rfl⟩

theorem take_step {A B : List Nat} {i : Nat} (h : A.take i = B.take i) (h1 : i < A.length) (h2 : i < B.length) (hx : A.getD i 0 = B.getD i 0) : A.take (i + 1) = B.take (i + 1) := by
  rw [List.take_succ_eq_append_getElem h1, List.take_succ_eq_append_getElem h2, h]
  simp only [List.getD_eq_getElem?_getD, List.getElem?_eq_getElem h1, List.getElem?_eq_getElem h2, Option.getD_some] at hx
  rw [hx]

def SameInv (va vb : Value) (A B : List Nat) (w : World) (a : Act) (w' : World) : Prop :=
  a.defers = [] ∧ a.tmps.size = 26 ∧ a.tmps[0]? = some va ∧ a.tmps[1]? = some vb ∧ ∃ i, i ≤ A.length ∧ a.tmps[5]? = some (.int .i64 ((i : Nat) : Int)) ∧ A.take i = B.take i ∧ ∃ n, w' = w.drewN n

set_option maxHeartbeats 400000 in
theorem same_any (va vb : Value) (A B : List Nat) (w : World) (ha : Sl w va (u8s A)) (hb : Sl w vb (u8s B)) (hl : A.length < 1099511627776) :
    Calls Try.prog 15 #[va, vb] w fun e w' => e = .returned (.bool (decide (A = B))) ∧ ∃ n, w' = w.drewN n := by
  by_cases hlen : A.length = B.length
  · obtain ⟨ao, ca, hva⟩ := ha.shape
    obtain ⟨bo, cb, hvb⟩ := hb.shape
    have hca : 0 < A.length → ∃ b off, ao = some ⟨b, off, none⟩ ∧ ∀ j, j < A.length → w.cell? ⟨b, off + j, none⟩ = some (.int .u8 ((A.getD j 0 : Nat) : Int)) := by
      intro h0
      obtain ⟨b, off, cap, e, _, _, hh⟩ := ha.cells h0
      rw [hva] at e
      simp only [Value.slice.injEq] at e
      exact ⟨b, off, e.1, hh⟩
    have hcb : 0 < B.length → ∃ b off, bo = some ⟨b, off, none⟩ ∧ ∀ j, j < B.length → w.cell? ⟨b, off + j, none⟩ = some (.int .u8 ((B.getD j 0 : Nat) : Int)) := by
      intro h0
      obtain ⟨b, off, cap, e, _, _, hh⟩ := hb.cells h0
      rw [hvb] at e
      simp only [Value.slice.injEq] at e
      exact ⟨b, off, e.1, hh⟩
    have HCA := Lib.hid hca
    have HCB := Lib.hid hcb
    have ht : ((A.length : Int) != (B.length : Int)) = false := by simp [hlen]
    have HLEN := Lib.hid hlen
    subst hva
    subst hvb
    clear ha hb hca hcb hlen
    go_enter Try.func15, Try.ntmps15
    go_wp2
    refine wp_loop (SameInv (.slice ao A.length ca) (.slice bo B.length cb) A B w) (fun a _ => A.length - (intOf (a.tmps.getD 5 undef)).toNat) ?_ ?_
    · exact ⟨rfl, rfl, rfl, rfl, 0, Nat.zero_le _, rfl, by simp, 0, rfl⟩
    · rintro ⟨tm, df⟩ w1 ⟨rfl, hs, h0, h1, i, hi, h5, htk, n1, rfl⟩
      simp only at hs h0 h1 h5
      obtain ⟨f, hf, hg⟩ := fr_open hs
      have e0 := hg _ _ h0
      have e1 := hg _ _ h1
      have e5 := hg _ _ h5
      simp only [List.range, List.range.loop, List.map] at hf
      rw [e0, e1, e5] at hf
      clear e0 e1 e5 hg hs h0 h1 h5
      subst hf
      have HTK := Lib.hid htk
      clear htk
      by_cases hlt : i < A.length
      · obtain ⟨b1, o1, rfl, hc1⟩ := HCA.out (by omega)
        obtain ⟨b2, o2, rfl, hc2⟩ := HCB.out (by have := HLEN.out; omega)
        have hd1 := hc1 i hlt
        have hd2 := hc2 i (by have := HLEN.out; omega)
        clear hc1 hc2
        have hi1 : (i : Int) < (A.length : Int) := by omega
        have hi2 : (i : Int) < (B.length : Int) := by have := HLEN.out; omega
        generalize hx : A.getD i 0 = x at *
        generalize hy : B.getD i 0 = y at *
        have HX := Lib.hid hx
        have HY := Lib.hid hy
        clear hx hy
        by_cases hxy : x = y
        · have hxb : ((x : Int) != (y : Int)) = false := by simp [hxy]
          have HXY := Lib.hid hxy
          clear hxy
          go_wp2
          go_quiet (fail)
          go_wp2
          refine ⟨⟨rfl, rfl, rfl, rfl, i + 1, hlt, rfl, ?_, _, rfl⟩, ?_⟩
          · exact take_step HTK.out hlt (by have := HLEN.out; omega) (by rw [HX.out, HY.out, HXY.out])
          · simp [intOf]; omega
        · have hxb : ((x : Int) != (y : Int)) = true := by simp; omega
          have HNE : ¬ A = B := fun e => hxy (by rw [← HX.out, ← HY.out, e])
          have e1 : decide (A = B) = false := by simp [HNE]
          clear hxy HNE
          go_wp2
          go_quiet (fail)
          go_wp2
          go_ret
          exact ⟨by rw [e1]; rfl, _, World.drewN_drewN _ _ _⟩
      · have e1 : A = B := by
          have h := HTK.out
          have := HLEN.out
          rwa [List.take_of_length_le (by omega), List.take_of_length_le (by omega)] at h
        have e2 : decide (A = B) = true := by simp [e1]
        clear e1
        go_wp2
        go_ret
        exact ⟨by rw [e2]; rfl, _, rfl⟩
  · have hne : ¬ A = B := fun e => hlen (by rw [e])
    have e1 : decide (A = B) = false := by simp [hne]
    rw [e1]
    obtain ⟨ao, ca, rfl⟩ := ha.shape
    obtain ⟨bo, cb, rfl⟩ := hb.shape
    have ht : ((A.length : Int) != (B.length : Int)) = true := by simp; omega
    clear ha hb e1 hne
    go_enter Try.func15, Try.ntmps15
    go_wp2
    go_ret
    exact ⟨rfl, 0, rfl⟩

end Go.Proofs.Ytnchbclfjaghnaa
