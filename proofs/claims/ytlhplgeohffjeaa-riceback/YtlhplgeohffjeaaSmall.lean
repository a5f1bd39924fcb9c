/- Contracts of the remaining functions of package bits, and of the reference's Same. -/
import Derived.Test.YtlhplgeohffjeaaSlice
import Derived.Test.YtlhplgeohffjeaaPut
import Derived.Test.YtlhplgeohffjeaaReader
namespace Go.Proofs.Ytlhplgeohffjeaa
open Go.RowKit Bx

def NewPost (base : Nat) (w : World) (e : Ending) (w' : World) : Prop :=
  ∃ p, e = .returned (.pointer (some ⟨p, 0, none⟩)) ∧ w.heap.size ≤ p ∧ Wr base w' p (.slice none 0 0) 0 0 0 ∧ Kept Nix w w'

set_option maxHeartbeats 400000 in
theorem new_any (base : Nat) (w : World) (hb : base ≤ w.heap.size) : Calls Try.prog 18 #[] w (NewPost base w) := by
  go_enter Try.func18, Try.ntmps18
  go_wp2
  go_ret
  refine ⟨w.heap.size, rfl, Nat.le_refl _, ⟨hb, heap_alloc_new w _, by simp [Value.ownBlock], [], World.ownsRow_nil _ _ _ _, pk_nil⟩, (Kept.refl _ _).alloc _⟩

set_option maxHeartbeats 400000 in
theorem len_any (base p : Nat) (v : Value) (N c r : Nat) (w : World) (h : Wr base w p v N c r) : Calls Try.prog 23 #[.pointer (some ⟨p, 0, none⟩)] w fun e w' => e = .returned (.int .i64 (c : Int)) ∧ w = w' := by
  have hc1 := cell_of (i := 1) h.2.1
  simp only [List.getElem?_toArray, List.getElem?_cons_zero, List.getElem?_cons_succ] at hc1
  clear h
  go_enter Try.func23, Try.ntmps23
  go_wp2
  go_ret
  exact ⟨rfl, rfl⟩

/-- A writer filled: as many bits 0 as are missing to a byte. -/
def pad (c : Nat) : Nat := (8 - c % 8) % 8

def ClonePost (base : Nat) (w : World) (B : List Nat) (e : Ending) (w' : World) : Prop :=
  ∃ v', e = .returned v' ∧ w'.ownsRow base 5 1 v' B.length (u8s B) ∧ Kept Nix w w' ∧ ∀ k, v'.ownBlock = some k → w.heap.size ≤ k

set_option maxHeartbeats 400000 in
theorem clone_any (base : Nat) (v : Value) (B : List Nat) (w : World) (h : Sl w v (u8s B)) (hl : B.length < 1099511627776) (hb : base ≤ w.heap.size) : Calls Try.prog 38 #[v] w (ClonePost base w B) := by
  obtain ⟨ao, cap, rfl, hsrc⟩ := src_of_sl h (u8s_one B)
  have heq := fun wx => Lib.run_eql_slice_nil (P := Try.prog) wx 42 5 ao (u8s B).length cap 0 0 Try.underlying42
  rw [u8s_length] at *
  cases ao with
  | none =>
    obtain ⟨h0, rfl⟩ := hsrc.2.1 rfl
    have hB : B = [] := List.eq_nil_of_length_eq_zero h0
    subst hB
    simp only [List.length_nil] at heq ⊢
    clear hsrc h h0
    go_enter Try.func38, Try.ntmps38
    go_wp2
    go_ret
    exact ⟨_, rfl, World.ownsRow_nil _ _ _ _, Kept.refl _ _, fun k hk => by simp [Value.ownBlock] at hk⟩
  | some ad =>
    have HS := Lib.hid hsrc
    clear hsrc h
    go_enter Try.func38, Try.ntmps38
    go_wp2_with (at_builtin; refine wpList_app _ rfl (.tmp 5) (.tmp 6) 42 rfl base 5 (.int .u8 0) 1 1 Try.underlying42 info_u8 rfl (by decide) (.slice (some ⟨w.heap.size, 0, none⟩) 0 0) 0 [] rfl ?_ (some ad) B.length cap (u8s B) rfl ?_ ?_ ?_ ?_ ?_)
    · exact World.ownsRow_made w #[] 0 hb (by simp [maxLen]) rfl
    · exact HS.out.alloc _
    · simp only [maxLen]; omega
    · omega
    · simp; omega
    · intro v1 w1 ho1 hg1 hv1
      go_wp2
      go_ret
      refine ⟨v1, rfl, ho1, ((Kept.refl _ w).alloc _).grown hg1 (fun k hk => .inr ?_), fun k hk => ?_⟩
      · simp only [Value.ownBlock, Option.some.injEq] at hk; omega
      · rcases hv1 with h | h
        · rw [h] at hk; simp only [Value.ownBlock, Option.some.injEq] at hk; omega
        · rw [h] at hk; simp only [Option.some.injEq] at hk; omega

set_option maxHeartbeats 400000 in
theorem bytes_any (base p : Nat) (v : Value) (N c r : Nat) (B : List Nat) (w : World) (h : w.heap[p]? = some (.cells #[v, .int .i64 c] 57 (0, 0))) (ho : w.ownsRow base 5 1 v B.length (u8s B)) (hpk : Pk B N c r) (hc : c < 1099511627776) (hr : r ≤ 8) (hb : base ≤ w.heap.size) :
    Calls Try.prog 25 #[.pointer (some ⟨p, 0, none⟩)] w (ClonePost base w B) := by
  have hc0 := cell_of (i := 0) h
  simp only [List.getElem?_toArray, List.getElem?_cons_zero] at hc0
  have hlen := hpk.2.1
  have HC := Lib.hid (clone_any base v B w (sl_of_owns ho) (by omega) hb)
  obtain ⟨ao, cap, rfl, hcap, hmax⟩ := owns_shape ho
  clear h ho hpk hlen hcap
  go_enter Try.func25, Try.ntmps25
  go_wp2_with (go_at_call 38; refine HC.out.mono ?_; rintro e w' ⟨v', rfl, h1, h2, h3⟩)
  go_ret
  exact ⟨v', rfl, h1, h2, h3⟩

def OpenPost (base : Nat) (w : World) (B : List Nat) (e : Ending) (w' : World) : Prop :=
  ∃ q v', e = .returned (.pointer (some ⟨q, 0, none⟩)) ∧ w.heap.size ≤ q ∧ Rd base w' q v' B 0 0 ∧ Kept Nix w w' ∧ ∀ k, v'.ownBlock = some k → w.heap.size ≤ k

set_option maxHeartbeats 400000 in
theorem open_any (base : Nat) (v : Value) (B : List Nat) (w : World) (h : Sl w v (u8s B)) (hB : ∀ b ∈ B, b < 256) (hl : B.length < 1099511627776) (hb : base ≤ w.heap.size) : Calls Try.prog 27 #[v] w (OpenPost base w B) := by
  have HC := Lib.hid (clone_any base v B w h hl hb)
  obtain ⟨ao, cap, rfl, _⟩ := h
  go_enter Try.func27, Try.ntmps27
  go_wp2_with (go_at_call 38; refine HC.out.mono ?_; rintro e w' ⟨v', rfl, h1, h2, h3⟩; obtain ⟨ao', cap', rfl, hc', hm'⟩ := owns_shape h1)
  go_ret
  refine ⟨w'.heap.size, _, rfl, h2.size, ⟨Nat.le_trans hb h2.size, heap_alloc_new w' _, ?_, h1.alloc _, hB, Nat.zero_le _⟩, h2.alloc _, h3⟩
  intro e
  have := (h1.lt _ e).2
  omega

set_option maxHeartbeats 400000 in
theorem at_any (base q : Nat) (v : Value) (B : List Nat) (at_ fl : Nat) (w : World) (h : Rd base w q v B at_ fl) : Calls Try.prog 29 #[.pointer (some ⟨q, 0, none⟩)] w fun e w' => e = .returned (.int .i64 (at_ : Int)) ∧ w = w' := by
  have hc1 := cell_of (i := 1) h.2.1
  simp only [List.getElem?_toArray, List.getElem?_cons_zero, List.getElem?_cons_succ] at hc1
  clear h
  go_enter Try.func29, Try.ntmps29
  go_wp2
  go_ret
  exact ⟨rfl, rfl⟩

set_option maxHeartbeats 400000 in
theorem fail_any (base q : Nat) (v : Value) (B : List Nat) (at_ fl : Nat) (w : World) (h : Rd base w q v B at_ fl) : Calls Try.prog 30 #[.pointer (some ⟨q, 0, none⟩)] w fun e w' => e = .returned (.int .i64 (fl : Int)) ∧ w = w' := by
  have hc1 := cell_of (i := 2) h.2.1
  simp only [List.getElem?_toArray, List.getElem?_cons_zero, List.getElem?_cons_succ] at hc1
  clear h
  go_enter Try.func30, Try.ntmps30
  go_wp2
  go_ret
  exact ⟨rfl, rfl⟩

/-- What End tells. -/
def rend (B : List Nat) (at_ fl : Nat) : Nat := bif decide (fl = 0) && decide (at_ < 8 * B.length) then 3 else fl

/-- Where Fill leaves the reader. -/
def fat (B : List Nat) (at_ fl : Nat) : Nat := bif rval B at_ fl (pad at_) != 0 then at_ else rat B at_ fl (pad at_)
def ffail (B : List Nat) (at_ fl : Nat) : Nat := bif rval B at_ fl (pad at_) != 0 then 5 else rfail B at_ fl (pad at_)

def SameInv (va vb : Value) (A B : List Nat) (w : World) (a : Act) (w' : World) : Prop :=
  a.defers = [] ∧ a.tmps.size = 26 ∧ a.tmps[0]? = some va ∧ a.tmps[1]? = some vb ∧ ∃ i, i ≤ A.length ∧ a.tmps[5]? = some (.int .i64 ((i : Nat) : Int)) ∧ A.take i = B.take i ∧ ∃ n, w' = w.drewN n

set_option maxHeartbeats 400000 in
theorem same_any (va vb : Value) (A B : List Nat) (w : World) (ha : Sl w va (u8s A)) (hb : Sl w vb (u8s B)) (hl : A.length < 1099511627776) :
    Calls Try.prog 24 #[va, vb] w fun e w' => e = .returned (.bool (decide (A = B))) ∧ ∃ n, w' = w.drewN n := by
  by_cases hlen : A.length = B.length
  · obtain ⟨ao, ca, hva⟩ := ha.shape
    obtain ⟨bo, cb, hvb⟩ := hb.shape
    have hca : 0 < A.length → ∃ b off, ao = some ⟨b, off, none⟩ ∧ ∀ j, j < A.length → w.cell? ⟨b, off + j, none⟩ = some (.int .u8 ((A.getD j 0 : Nat) : Int)) := by
      intro h0
      obtain ⟨b, off, cap, e, _, _, hh⟩ := ha.cells h0
      rw [hva] at e
      simp only [Value.slice.injEq] at e
      exact ⟨b, off, e.1, hh⟩
    have hcb : 0 < B.length → ∃ b off, bo = some ⟨b, off, none⟩ ∧ ∀ j, j < B.length → w.cell? ⟨b, off + j, none⟩ = some (.int .u8 ((B.getD j 0 : Nat) : Int)) := by
      intro h0
      obtain ⟨b, off, cap, e, _, _, hh⟩ := hb.cells h0
      rw [hvb] at e
      simp only [Value.slice.injEq] at e
      exact ⟨b, off, e.1, hh⟩
    have HCA := Lib.hid hca
    have HCB := Lib.hid hcb
    have ht : ((A.length : Int) != (B.length : Int)) = false := by simp [hlen]
    have HLEN := Lib.hid hlen
    subst hva
    subst hvb
    clear ha hb hca hcb hlen
    go_enter Try.func24, Try.ntmps24
    go_wp2
    refine wp_loop (SameInv (.slice ao A.length ca) (.slice bo B.length cb) A B w) (fun a _ => A.length - (intOf (a.tmps.getD 5 undef)).toNat) ?_ ?_
    · exact ⟨rfl, rfl, rfl, rfl, 0, Nat.zero_le _, rfl, by simp, 0, rfl⟩
    · rintro ⟨tm, df⟩ w1 ⟨rfl, hs, h0, h1, i, hi, h5, htk, n1, rfl⟩
      simp only at hs h0 h1 h5
      obtain ⟨f, hf, hg⟩ := fr_open hs
      have e0 := hg _ _ h0
      have e1 := hg _ _ h1
      have e5 := hg _ _ h5
      simp only [List.range, List.range.loop, List.map] at hf
      rw [e0, e1, e5] at hf
      clear e0 e1 e5 hg hs h0 h1 h5
      subst hf
      have HTK := Lib.hid htk
      clear htk
      by_cases hlt : i < A.length
      · obtain ⟨b1, o1, rfl, hc1⟩ := HCA.out (by omega)
        obtain ⟨b2, o2, rfl, hc2⟩ := HCB.out (by have := HLEN.out; omega)
        have hd1 := hc1 i hlt
        have hd2 := hc2 i (by have := HLEN.out; omega)
        clear hc1 hc2
        have hi1 : (i : Int) < (A.length : Int) := by omega
        have hi2 : (i : Int) < (B.length : Int) := by have := HLEN.out; omega
        generalize hx : A.getD i 0 = x at *
        generalize hy : B.getD i 0 = y at *
        have HX := Lib.hid hx
        have HY := Lib.hid hy
        clear hx hy
        by_cases hxy : x = y
        · have hxb : ((x : Int) != (y : Int)) = false := by simp [hxy]
          have HXY := Lib.hid hxy
          clear hxy
          go_wp2
          go_quiet (fail)
          go_wp2
          refine ⟨⟨rfl, rfl, rfl, rfl, i + 1, hlt, rfl, ?_, _, rfl⟩, ?_⟩
          · exact take_step HTK.out hlt (by have := HLEN.out; omega) (by rw [HX.out, HY.out, HXY.out])
          · simp [intOf]; omega
        · have hxb : ((x : Int) != (y : Int)) = true := by simp; omega
          have HNE : ¬ A = B := fun e => hxy (by rw [← HX.out, ← HY.out, e])
          have e1 : decide (A = B) = false := by simp [HNE]
          clear hxy HNE
          go_wp2
          go_quiet (fail)
          go_wp2
          go_ret
          exact ⟨by rw [e1]; rfl, _, World.drewN_drewN _ _ _⟩
      · have e1 : A = B := by
          have h := HTK.out
          have := HLEN.out
          rwa [List.take_of_length_le (by omega), List.take_of_length_le (by omega)] at h
        have e2 : decide (A = B) = true := by simp [e1]
        clear e1
        go_wp2
        go_ret
        exact ⟨by rw [e2]; rfl, _, rfl⟩
  · have hne : ¬ A = B := fun e => hlen (by rw [e])
    have e1 : decide (A = B) = false := by simp [hne]
    rw [e1]
    obtain ⟨ao, ca, rfl⟩ := ha.shape
    obtain ⟨bo, cb, rfl⟩ := hb.shape
    have ht : ((A.length : Int) != (B.length : Int)) = true := by simp; omega
    clear ha hb e1 hne
    go_enter Try.func24, Try.ntmps24
    go_wp2
    go_ret
    exact ⟨rfl, 0, rfl⟩

end Go.Proofs.Ytlhplgeohffjeaa
