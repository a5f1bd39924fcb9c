/- Channels of the call's own, of whatever lengths: a slice of slices, all owned. -/
import Derived.Test.YtpiongdkfebchaaPcmCat
namespace Go.Proofs.Ytpiongdkfebchaa
open Go.RowKit Bx

theorem owns_weak {w : World} {base base' : Nat} {e : TypeId} {v : Value} {n : Nat} {xs : List Value} (h : w.ownsRow base e 1 v n xs) (hb : base' ≤ base) : w.ownsRow base' e 1 v n xs := by
  refine ⟨h.1, ?_⟩
  rcases h.2 with h2 | ⟨g, cap, cur, e1, e2, e3⟩
  · exact .inl h2
  · exact .inr ⟨g, cap, cur, e1, Nat.le_trans hb e2, e3⟩

theorem owns_type {w : World} {base : Nat} {e : TypeId} {v : Value} {n : Nat} {xs : List Value} (h : w.ownsRow base e 1 v n xs) {k : Nat} (hk : v.ownBlock = some k) : ∃ cur, w.heap[k]? = some (.cells cur e (0, 0)) := by
  rcases h.2 with ⟨rfl, _⟩ | ⟨g, cap, cur, rfl, _, hg, _⟩
  · cases hk
  · cases hk
    exact ⟨cur, hg⟩

def Rack (base : Nat) (w : World) (v : Value) (us : List Value) (L : List (List Int)) : Prop :=
  w.ownsRow base 45 1 v us.length us ∧ us.length = L.length ∧ ∀ i, i < L.length → ∃ u, us[i]? = some u ∧ w.ownsRow base 3 1 u (L.getD i []).length (ivs (L.getD i []))

theorem Rack.chs {base : Nat} {w : World} {v : Value} {us : List Value} {L : List (List Int)} (h : Rack base w v us L) : Chs w v L := by
  obtain ⟨h1, h2, h3⟩ := h
  exact ⟨us, sl_of_owns h1, h2, fun i hi => by obtain ⟨u, hu, ho⟩ := h3 i hi; exact ⟨u, hu, sl_of_owns ho⟩⟩

theorem rack_nil (base : Nat) (w : World) : Rack base w (.slice none 0 0) [] [] := ⟨World.ownsRow_nil _ _ _ _, rfl, fun i hi => by simp at hi⟩

/-- What is no part of it may turn. -/
theorem Rack.other {base : Nat} {w w' : World} {v : Value} {us : List Value} {L : List (List Int)} (h : Rack base w v us L) {S : Nat → Prop} (hk : Kept S w w') (hS : ∀ k cur t, S k → w.heap[k]? = some (.cells cur t (0, 0)) → t ≠ 45 ∧ t ≠ 3) : Rack base w' v us L := by
  obtain ⟨h1, h2, h3⟩ := h
  refine ⟨hk.owns h1 (fun k hb hs => ?_), h2, fun i hi => ?_⟩
  · obtain ⟨cur, hg⟩ := owns_type h1 hb
    exact (hS k _ _ hs hg).1 rfl
  · obtain ⟨u, hu, ho⟩ := h3 i hi
    refine ⟨u, hu, hk.owns ho (fun k hb hs => ?_)⟩
    obtain ⟨cur, hg⟩ := owns_type ho hb
    exact (hS k _ _ hs hg).2 rfl

theorem Rack.kept {base : Nat} {w w' : World} {v : Value} {us : List Value} {L : List (List Int)} (h : Rack base w v us L) (hk : Kept Nix w w') : Rack base w' v us L := h.other hk (fun _ _ _ h _ => absurd h id)

theorem Rack.push {base : Nat} {w w2 w6 : World} {v v6 u : Value} {us : List Value} {L : List (List Int)} {zs : List Int} (h : Rack base w v us L) (k2 : Kept Nix w w2) (hu : w2.ownsRow base 3 1 u zs.length (ivs zs))
    (ho : w6.ownsRow base 45 1 v6 (us.length + 1) (us ++ [u])) (hg : w2.grownBy w6 v.ownBlock) : Rack base w6 v6 (us ++ [u]) (L ++ [zs]) := by
  have h' := h.kept k2
  obtain ⟨h1, h2, h3⟩ := h'
  have keep : ∀ {x : Value} {n : Nat} {xs : List Value}, w2.ownsRow base 3 1 x n xs → w6.ownsRow base 3 1 x n xs := by
    intro x n xs hx
    have hk : Kept (fun k => v.ownBlock = some k) w2 w6 := ⟨hg.os, hg.tape, hg.output, hg.size, fun k hk hn => hg.block k hk (fun e => hn e.symm)⟩
    refine hk.owns hx (fun k hb hs => ?_)
    obtain ⟨c1, g1⟩ := owns_type hx hb
    obtain ⟨c2, g2⟩ := owns_type h1 hs
    rw [g1] at g2
    simp at g2
  refine ⟨by simpa using ho, by simp [h2], fun i hi => ?_⟩
  by_cases hlt : i < L.length
  · obtain ⟨x, hx, hxo⟩ := h3 i hlt
    have e2 : (L ++ [zs]).getD i [] = L.getD i [] := by simp [List.getD, List.getElem?_append_left hlt]
    rw [e2]
    exact ⟨x, by rw [List.getElem?_append_left (by omega)]; exact hx, keep hxo⟩
  · have hie : i = L.length := by simp at hi; omega
    subst hie
    have e2 : (L ++ [zs]).getD L.length [] = zs := by simp [List.getD]
    rw [e2]
    exact ⟨u, by rw [← h2]; simp, keep hu⟩

/-- A row more, and the box that holds them. -/
theorem rack_step {w w1 w2 w6 : World} {r d : Int} {v v6 u : Value} {p9 : Nat} {us : List Value} {L : List (List Int)} {zs : List Int} (hk : Kept Nix w w1) (h9 : w1.heap[p9]? = some (.cells #[.int .i64 r, .int .i64 d, v] 24 (0, 0)))
    (hgd : Rack w.heap.size w1 v us L) (k2 : Kept Nix w1 w2) (hu : w2.ownsRow w.heap.size 3 1 u zs.length (ivs zs))
    (o6 : w6.ownsRow w.heap.size 45 1 v6 (us.length + 1) (us ++ [u])) (g6 : w2.grownBy w6 v.ownBlock) (hp9 : w.heap.size ≤ p9) :
    Kept Nix w (w6.setCell ⟨p9, 2, none⟩ v6) ∧ (∀ (k : Nat) (cs : Array Value) (t : TypeId), k ≠ p9 → t ≠ 45 → w1.heap[k]? = some (.cells cs t (0, 0)) → (w6.setCell ⟨p9, 2, none⟩ v6).heap[k]? = some (.cells cs t (0, 0))) ∧ (w6.setCell ⟨p9, 2, none⟩ v6).heap[p9]? = some (.cells #[.int .i64 r, .int .i64 d, v6] 24 (0, 0)) ∧ Rack w.heap.size (w6.setCell ⟨p9, 2, none⟩ v6) v6 (us ++ [u]) (L ++ [zs]) := by
  have keep : ∀ (k : Nat) (cur : Array Value) (t : TypeId), t ≠ 45 → w1.heap[k]? = some (.cells cur t (0, 0)) → w6.heap[k]? = some (.cells cur t (0, 0)) := by
    intro k cur t ht hk'
    have hk2 := k2.heap hk' id
    refine (g6.block k (lt_of_heap hk2) (fun e => ?_)).trans hk2
    obtain ⟨cur', hg'⟩ := owns_type (hgd.kept k2).1 e.symm
    rw [hk2] at hg'
    simp at hg'
    exact ht hg'.2
  have q9 := keep p9 _ _ (by decide) h9
  have hpush := hgd.push k2 hu o6 g6
  have k6 : Kept Nix w w6 := (nix_trans hk k2).grown g6 (fun k hk' => .inr (hgd.1.lt k hk').1)
  refine ⟨k6.setCell (.inr hp9) _, fun k cs t hne ht hk' => (heap_set_other (p := ⟨p9, 2, none⟩) hne).trans (keep k cs t ht hk'), (heap_set q9).trans (by simp), ?_⟩
  refine hpush.other (Kept.setCell (S := One p9) (Kept.refl _ _) (p := ⟨p9, 2, none⟩) (.inl rfl) _) (fun k cur t hk' hh => ?_)
  have hk'' : k = p9 := hk'
  subst hk''
  rw [q9] at hh
  cases hh
  exact ⟨by decide, by decide⟩

theorem size_int (w : World) : (sizeOf 3).run Try.prog w = .ok 1 w := by
  obtain ⟨i, hi, hz, hsize, hby⟩ := info_parts info_int
  simp [sizeOf, typeInfo, hi, hsize]

theorem elem_ints : Try.prog.elem 45 = 3 := by kernel_rfl

theorem run_mid (w : World) (ao : Option Addr) (len cap i j : Nat) (h1 : i ≤ j) (h2 : j ≤ cap) : (Instr.slice 45 (.slice ao len cap) (some (.int .i64 (i : Int))) (some (.int .i64 (j : Int))) none).run Try.prog w = .ok (.slice (if cap = i then ao else ao.map (fun x => x.add i)) (j - i) (cap - i)) w := by
  have ht : Try.prog.underlying 45 = some (.slice (Try.prog.elem 45)) := by rw [elem_ints]; exact Try.underlying45
  rw [run_slice_lh w 45 ao len cap ht .i64 .i64 (i : Int) (j : Int) (by omega) (by omega) (by omega), elem_ints, size_int]
  simp [sliced]

theorem run_mid_at (w : World) (ao : Option Addr) (len cap i j : Nat) (h1 : i ≤ j) (h2 : j ≤ cap) : (Instr.sliceAt 45 (.slice ao len cap) (some (.int .i64 (i : Int))) (some (.int .i64 (j : Int))) none).run Try.prog w = .ok (.slice (if cap = i then ao else ao.map (fun x => x.add i)) (j - i) (cap - i)) w := by
  have ht : Try.prog.underlying 45 = some (.slice (Try.prog.elem 45)) := by rw [elem_ints]; exact Try.underlying45
  rw [run_sliceAt_slice w 45 _ _ _ _ ht, run_mid w ao len cap i j h1 h2]

theorem sl_mid {w : World} {ao : Option Addr} {len cap : Nat} {xs : List Value} (h : Sl w (.slice ao len cap) xs) (i j : Nat) (h1 : i ≤ j) (h2 : j ≤ len) : Sl w (.slice (if cap = i then ao else ao.map (fun x => x.add i)) (j - i) (cap - i)) ((xs.drop i).take (j - i)) := by
  have hd := h.drop i (by omega)
  have ht := hd.take (j - i) (by omega)
  exact ht

end Go.Proofs.Ytpiongdkfebchaa
