/- Contracts of the reference's bits of bytes, and of its reader. -/
import Derived.Test.YtnchbclfjaghnaaLPut
namespace Go.Proofs.Ytnchbclfjaghnaa
open Go.RowKit Bx

/-- The bits of bytes. -/
def bitsOf (B : List Nat) : List Bool := B.flatMap (dg 8)
theorem bitsOf_snoc (B : List Nat) (b : Nat) : bitsOf (B ++ [b]) = bitsOf B ++ dg 8 b := by simp [bitsOf]
theorem bitsOf_length : ∀ (n : Nat) (B : List Nat), B.length = n → (bitsOf B).length = 8 * n := by
  intro n
  induction n with
  | zero => intro B h; have : B = [] := List.eq_nil_of_length_eq_zero h; subst this; rfl
  | succ n ih =>
    intro B h
    obtain ⟨i, x, rfl⟩ := snoc_of_pos B (by omega)
    rw [bitsOf_snoc, List.length_append, ih i (by simpa using h), dg_length]; omega
theorem num_bitsOf : ∀ (n : Nat) (B : List Nat), B.length = n → (∀ b ∈ B, b < 256) → num (bitsOf B) = be B := by
  intro n
  induction n with
  | zero => intro B h _; have : B = [] := List.eq_nil_of_length_eq_zero h; subst this; rfl
  | succ n ih =>
    intro B h hB
    obtain ⟨i, x, rfl⟩ := snoc_of_pos B (by omega)
    have hx := hB x (by simp)
    rw [bitsOf_snoc, num_append, dg_length, num_dg, be_snoc, ih i (by simpa using h) (fun b hb => hB b (by simp [hb])), Nat.mod_eq_of_lt (by omega)]

/-- A part of a list of bits is a part of its number. -/
theorem num_part (L : List Bool) (a k : Nat) (h : a + k ≤ L.length) : num ((L.drop a).take k) = num L / 2 ^ (L.length - (a + k)) % 2 ^ k := by
  have e : L = (L.take a ++ (L.drop a).take k) ++ L.drop (a + k) := by
    rw [← List.take_add, List.take_append_drop]
  have hk : ((L.drop a).take k).length = k := by simp; omega
  have hd : (L.drop (a + k)).length = L.length - (a + k) := by simp
  have h1 := num_append (L.take a ++ (L.drop a).take k) (L.drop (a + k))
  rw [← e, hd] at h1
  have hlt := num_lt _ _ hd
  rw [h1, Nat.mul_comm, Nat.mul_add_div (Nat.two_pow_pos _), Nat.div_eq_of_lt hlt, Nat.add_zero, num_append, hk, Nat.mul_comm, Nat.mul_add_mod, Nat.mod_eq_of_lt (num_lt _ _ hk)]

/-- At block q lies the reference's reader of the bits L. -/
def Rr (base : Nat) (w : World) (q : Nat) (v : Value) (L : List Bool) (K E : Nat) : Prop :=
  base ≤ q ∧ w.heap[q]? = some (.cells #[v, .int .i64 K, .int .i64 E] 43 (0, 0)) ∧ v.ownBlock ≠ some q ∧
  w.ownsRow base 4 1 v L.length (bls L) ∧ K ≤ L.length
theorem Rr.kept {base : Nat} {w w' : World} {q : Nat} {v : Value} {L : List Bool} {K E : Nat} {S : Nat → Prop} (h : Rr base w q v L K E) (hk : Kept S w w') (hd : Disj (Only q v) S) : Rr base w' q v L K E := by
  obtain ⟨hb, hp, hne, ho, ha⟩ := h
  exact ⟨hb, hk.heap hp (hd q (.inl rfl)), hne, hk.owns ho (fun k hk => hd k (.inr hk)), ha⟩
theorem Rr.foot {base : Nat} {w : World} {q : Nat} {v : Value} {L : List Bool} {K E : Nat} (h : Rr base w q v L K E) : ∀ k, Only q v k → base ≤ k ∧ k < w.heap.size := by
  rintro k (rfl | hk)
  · exact ⟨h.1, lt_of_heap h.2.1⟩
  · exact h.2.2.2.1.lt k hk
theorem Rr.move {base : Nat} {w : World} {q : Nat} {v : Value} {L : List Bool} {K E : Nat} (h : Rr base w q v L K E) (K' : Nat) (hK : K' ≤ L.length) : Rr base (w.setCell ⟨q, 1, none⟩ (.int .i64 (K' : Int))) q v L K' E := by
  obtain ⟨hb, hp, hne, ho, ha⟩ := h
  have hk := Kept.setCell (S := One q) (p := ⟨q, 1, none⟩) (Kept.refl _ w) (.inl rfl) (.int .i64 (K' : Int))
  exact ⟨hb, by rw [heap_set hp]; simp, hne, hk.owns ho (fun k hk e => hne (by rw [hk, e])), hK⟩
theorem Rr.failed {base : Nat} {w : World} {q : Nat} {v : Value} {L : List Bool} {K E : Nat} (h : Rr base w q v L K E) (E' : Nat) : Rr base (w.setCell ⟨q, 2, none⟩ (.int .i64 (E' : Int))) q v L K E' := by
  obtain ⟨hb, hp, hne, ho, ha⟩ := h
  have hk := Kept.setCell (S := One q) (p := ⟨q, 2, none⟩) (Kept.refl _ w) (.inl rfl) (.int .i64 (E' : Int))
  exact ⟨hb, by rw [heap_set hp]; simp, hne, hk.owns ho (fun k hk e => hne (by rw [hk, e])), ha⟩
def RrPost (base : Nat) (w : World) (q : Nat) (v : Value) (L : List Bool) (K E : Nat) (w' : World) : Prop := Rr base w' q v L K E ∧ Kept (One q) w w'

def BitsInv (base : Nat) (w : World) (v : Value) (B : List Nat) (a : Act) (w' : World) : Prop :=
  a.defers = [] ∧ a.tmps.size = 20 ∧ a.tmps[0]? = some v ∧ Kept Nix w w' ∧ ∃ i vo, i ≤ B.length ∧ a.tmps[4]? = some (.int .i64 ((i : Nat) : Int)) ∧ a.tmps[3]? = some vo ∧
    w'.ownsRow base 4 1 vo (8 * i) (bls (bitsOf (B.take i))) ∧ ∀ k, vo.ownBlock = some k → w.heap.size ≤ k

set_option maxHeartbeats 400000 in
theorem bits_any (base : Nat) (v : Value) (B : List Nat) (w : World) (h : Sl w v (u8s B)) (hB : ∀ b ∈ B, b < 256) (hl : B.length ≤ 200) (hb : base ≤ w.heap.size) :
    Calls Try.prog 19 #[v] w (DigPost base w (bitsOf B)) := by
  obtain ⟨ao, cap, rfl⟩ := h.shape
  have HS := Lib.hid h
  clear h
  go_enter Try.func19, Try.ntmps19
  go_wp2
  refine wp_loop (BitsInv base w (.slice ao B.length cap) B) (fun a _ => B.length - (intOf (a.tmps.getD 4 undef)).toNat) ?_ ?_
  · exact ⟨rfl, rfl, rfl, Kept.refl _ _, 0, _, Nat.zero_le _, rfl, rfl, World.ownsRow_nil _ _ _ _, fun k hk => by simp [Value.ownBlock] at hk⟩
  · rintro ⟨tm, df⟩ w2 ⟨rfl, hs, h0, k2, i, vo, hi, h4, h3, o2, n2⟩
    simp only at hs h0 h3 h4
    obtain ⟨f, hf, hg⟩ := fr_open hs
    have e0 := hg _ _ h0
    have e3 := hg _ _ h3
    have e4 := hg _ _ h4
    simp only [List.range, List.range.loop, List.map] at hf
    rw [e0, e3, e4] at hf
    clear e0 e3 e4 hg hs h0 h3 h4
    subst hf
    have s2 := k2.size
    obtain ⟨aoo, capo, hvo, hcapo, hmaxo⟩ := owns_shape o2
    have O2 := Lib.hid o2
    have N2 := Lib.hid n2
    subst hvo
    clear o2 n2
    by_cases hlt : i < B.length
    · obtain ⟨b, off, rfl⟩ := HS.out.where (by omega)
      obtain ⟨b', off', cap', e, _, _, hh⟩ := (HS.out.nix k2).cells (by omega)
      simp only [Value.slice.injEq, Option.some.injEq, Addr.mk.injEq, and_true, true_and] at e
      obtain ⟨⟨rfl, rfl⟩, rfl⟩ := e
      have hd := hh i hlt
      clear hh
      have hx := getD_lt B i hB
      have htk : bitsOf (B.take (i + 1)) = bitsOf (B.take i) ++ dg 8 (B.getD i 0) := by
        rw [List.take_succ_eq_append_getElem hlt, bitsOf_snoc]; simp [hlt]
      generalize B.getD i 0 = x at *
      have HTK := Lib.hid htk
      clear htk
      have hi1 : (i : Int) < (B.length : Int) := by omega
      have gx : IntKind.u64.wrap (x : Int) = (x : Int) := by rw [IntKind.wrap_u64]; omega
      have HD := Lib.hid (digits_any base x 8 w2 (by omega) (by omega))
      have hdl := dg_length 8 x
      have ew : wid 8 = 8 := by decide
      have HDL := Lib.hid hdl
      rw [ew] at HD
      clear hdl ew
      go_wp2_with fail
      refine HD.out.mono ?_
      rintro e w3 ⟨v3, rfl, o3, k3, g3⟩
      obtain ⟨ao3, cap3, hv3, hsrc3⟩ := src_of_sl (sl_of_owns o3) (bls_one _)
      have s3 := k3.size
      rw [bls_length, HDL.out] at hv3 hsrc3
      have HSRC := Lib.hid hsrc3
      have O3 := Lib.hid (k3.owns O2.out (fun _ _ h => h))
      have K3 := Lib.hid (nix_trans k2 k3)
      subst hv3
      clear o3 g3 hsrc3 k3
      go_wp2_with (at_builtin; refine wpList_app _ rfl (.tmp 11) (.tmp 17) 24 rfl base 4 (.bool false) 1 1 Try.underlying24 info_bool rfl (by decide) _ (8 * i) _ rfl O3.out _ 8 cap3 _ rfl HSRC.out ?_ ?_ ?_ ?_)
      · simp only [maxLen]; omega
      · omega
      · omega
      · intro v4 w4 o4 g4 n4
        have k4 : Kept Nix w w4 := K3.out.grown g4 (fun k hk => .inr (N2.out k hk))
        have n4' : ∀ k, v4.ownBlock = some k → w.heap.size ≤ k := by
          intro k hk
          rcases n4 with h | h
          · rw [h] at hk; exact N2.out k hk
          · rw [h] at hk; simp only [Option.some.injEq] at hk; omega
        have o4' : w4.ownsRow base 4 1 v4 (8 * (i + 1)) (bls (bitsOf (B.take (i + 1)))) := by
          rw [HTK.out, bls_append, show 8 * (i + 1) = 8 * i + 8 by omega]; exact o4
        obtain ⟨ao4, cap4, hv4, hcap4, hmax4⟩ := owns_shape o4
        have O4 := Lib.hid o4'
        clear o4 o4' g4 n4
        subst hv4
        go_wp2
        refine ⟨⟨rfl, rfl, rfl, k4, i + 1, _, hlt, rfl, rfl, O4.out, n4'⟩, ?_⟩
        simp [intOf]
        omega
    · have hit : ¬ i < B.length := hlt
      have e1 : B.take i = B := List.take_of_length_le (by omega)
      have e2 : 8 * i = (bitsOf B).length := by rw [bitsOf_length _ B rfl]; omega
      have HE := Lib.hid (And.intro e1 e2)
      clear e1 e2
      go_wp2
      go_ret
      exact ⟨_, rfl, by have h := O2.out; rw [HE.out.1] at h; exact (congrArg (fun n => w2.ownsRow base 4 1 (.slice aoo (8 * i) capo) n (bls (bitsOf B))) HE.out.2).mp h, k2, N2.out⟩

set_option maxHeartbeats 400000 in
theorem rtake_any (base q : Nat) (v : Value) (L : List Bool) (B : List Nat) (K E : Nat) (width : Int) (w : World) (h : Rr base w q v L K E) (hL : L.length = 8 * B.length) (hN : num L = be B) (hl : B.length ≤ 200) :
    Calls Try.prog 23 #[.pointer (some ⟨q, 0, none⟩), .int .i64 width] w fun e w' => e = .returned (.int .u64 ((rval B K E (wid width) : Nat) : Int)) ∧ RrPost base w q v L (rat B K E (wid width)) (rfail B K E (wid width)) w' := by
  have hk := wid_le width
  have hc0 := cell_of (i := 0) h.2.1
  have hc1 := cell_of (i := 1) h.2.1
  have hc2 := cell_of (i := 2) h.2.1
  have hz1 := frozen_of (i := 1) h.2.1
  have hz2 := frozen_of (i := 2) h.2.1
  simp only [List.getElem?_toArray, List.getElem?_cons_zero, List.getElem?_cons_succ] at hc0 hc1 hc2
  have hK := h.2.2.2.2
  obtain ⟨ao, cap, hv, hcap, hmax⟩ := owns_shape h.2.2.2.1
  have H := Lib.hid h
  have HV := Lib.hid hv
  have HN := Lib.hid hN
  have HL := Lib.hid hL
  rw [hv] at hc0
  clear h hv hN hL
  by_cases hf : E = 0
  · subst hf
    have w1 : IntKind.i64.wrap ((L.length : Int) - (K : Int)) = ((L.length - K : Nat) : Int) := by have := HL.out; rw [IntWalk.i64_in _ (by omega)]; omega
    by_cases hs : 8 * B.length < K + wid width
    · have e1 : rval B K 0 (wid width) = 0 := by simp [rval, short, hs]
      have e2 : rat B K 0 (wid width) = K := by simp [rat, short, hs]
      have e3 : rfail B K 0 (wid width) = 2 := by simp [rfail, hs]
      rw [e1, e2, e3]
      have ht : decide (((L.length - K : Nat) : Int) < ((wid width : Nat) : Int)) = true := by have := HL.out; simp; omega
      have ht2 : L.length - K < wid width := by have := HL.out; omega
      clear e1 e2 e3
      go_enter Try.func23, Try.ntmps23
      go_wp2_with (go_at_call 32; refine (width_any _ _).mono ?_; rintro e w' ⟨rfl, rfl⟩)
      go_quiet (fail)
      go_wp2
      go_ret
      exact ⟨rfl, Rr.failed (w := w.drewN nq) H.out 2, ((Kept.refl (One q) w).drewN nq).setCell (p := ⟨q, 2, none⟩) (.inl rfl) _⟩
    · have e1 : rval B K 0 (wid width) = be B / 2 ^ (8 * B.length - (K + wid width)) % 2 ^ wid width := by simp [rval, short, hs]
      have e2 : rat B K 0 (wid width) = K + wid width := by simp [rat, short, hs]
      have e3 : rfail B K 0 (wid width) = 0 := by simp [rfail, hs]
      have hlen := HL.out
      have hpart := num_part L K (wid width) (by omega)
      rw [HN.out, HL.out, ← e1] at hpart
      rw [e2, e3, ← hpart]
      have ht : decide (((L.length - K : Nat) : Int) < ((wid width : Nat) : Int)) = false := by simp; omega
      have ht2 : ¬ L.length - K < wid width := by omega
      obtain ⟨k, hkw⟩ : ∃ k, wid width = k := ⟨_, rfl⟩
      rw [hkw] at hk hs ht ht2 ⊢
      have HKW := Lib.hid hkw
      clear e1 e2 e3 hpart hkw
      have w2 : IntKind.i64.wrap ((K : Int) + (k : Int)) = (K : Int) + (k : Int) := IntWalk.i64_in _ (by omega)
      by_cases hk0 : k = 0
      · subst hk0
        have HLEN := Lib.hid hlen
        have hnb : ∀ (a1 : Option Addr) (c1 : Nat) (W : World), c1 ≤ cap → (a1 = none → c1 = 0) → Calls Try.prog 34 #[.slice a1 0 c1] W fun e w' => e = .returned (.int .u64 0) ∧ w' = W := by
          intro a1 c1 W h1 h2
          have h3 : Sl W (.slice a1 0 c1) (bls []) := ⟨a1, c1, rfl, Nat.zero_le _, Nat.le_trans h1 hmax, h2, fun h => by simp [bls] at h⟩
          exact (number_any _ [] W h3 (by simp)).mono fun _ _ ⟨h, h'⟩ => ⟨h, h'.symm⟩
        have HNB := Lib.hid hnb
        have w3 : IntKind.i64.wrap (K : Int) = (K : Int) := IntWalk.i64_in _ (by omega)
        have b2 : (K : Int) ≤ (cap : Int) := by omega
        have hnone : ao = none → cap = 0 := by
          intro e
          have h := sl_of_owns H.out.2.2.2.1
          obtain ⟨ao', cap', e', _, _, hno, _⟩ := h
          rw [HV.out] at e'
          simp only [Value.slice.injEq] at e'
          rw [e'.2.2]; exact hno (e'.1 ▸ e)
        have HNO := Lib.hid hnone
        clear hlen hnb hnone
        simp only [List.take_zero, Nat.add_zero, Nat.add_zero, Int.natCast_zero, Int.add_zero] at *
        cases hao : ao with
        | none =>
          subst hao
          have hc0' := HNO.out rfl
          subst hc0'
          have hK0 : K = 0 := by omega
          subst hK0
          clear HNO
          go_enter Try.func23, Try.ntmps23
          go_wp2_with (go_at_call 32; refine (width_any _ _).mono ?_; rintro e w' ⟨rfl, rfl⟩; rw [HKW.out])
          go_quiet (fail)
          go_wp2
          generalize nq = n1 at *
          go_quiet ((go_at_call 34; exact Calls.quiet_of_same (HNB.out _ _ _ (by omega) (by omega))))
          go_wp2
          go_ret
          refine ⟨rfl, Rr.move (w := w.drewN n1) H.out _ hK, ?_⟩
          exact (((Kept.refl (One q) w).drewN n1).setCell (p := ⟨q, 1, none⟩) (.inl rfl) _).drewN _
        | some ad =>
          subst hao
          obtain ⟨g, off, spot⟩ := ad
          have hoff : off = 0 ∧ spot = none := by
            rcases H.out.2.2.2.1.2 with ⟨e, _⟩ | ⟨g', cap', cur, e, _⟩
            · rw [HV.out] at e; simp at e
            · rw [HV.out] at e
              simp only [Value.slice.injEq, Option.some.injEq, Addr.mk.injEq] at e
              exact ⟨e.1.2.1, e.1.2.2⟩
          obtain ⟨rfl, rfl⟩ := hoff
          by_cases hcK : cap = K
          · subst hcK
            go_enter Try.func23, Try.ntmps23
            go_wp2_with (go_at_call 32; refine (width_any _ _).mono ?_; rintro e w' ⟨rfl, rfl⟩; rw [HKW.out])
            go_quiet (fail)
            go_wp2
            generalize nq = n1 at *
            go_quiet ((go_at_call 34; exact Calls.quiet_of_same (HNB.out _ _ _ (by omega) (by intro h; simp at h))))
            go_wp2
            go_ret
            refine ⟨rfl, Rr.move (w := w.drewN n1) H.out _ hK, ?_⟩
            exact (((Kept.refl (One q) w).drewN n1).setCell (p := ⟨q, 1, none⟩) (.inl rfl) _).drewN _
          · go_enter Try.func23, Try.ntmps23
            go_wp2_with (go_at_call 32; refine (width_any _ _).mono ?_; rintro e w' ⟨rfl, rfl⟩; rw [HKW.out])
            go_quiet (fail)
            go_wp2
            generalize nq = n1 at *
            go_quiet ((go_at_call 34; exact Calls.quiet_of_same (HNB.out _ _ _ (by omega) (by intro h; simp at h))))
            go_wp2
            go_ret
            refine ⟨rfl, Rr.move (w := w.drewN n1) H.out _ hK, ?_⟩
            exact (((Kept.refl (One q) w).drewN n1).setCell (p := ⟨q, 1, none⟩) (.inl rfl) _).drewN _
      · obtain ⟨g, cap', hv', hcap', hmax', hbg, hgl⟩ := owns_pos H.out.2.2.2.1 (by omega)
        rw [HV.out] at hv'
        simp only [Value.slice.injEq, true_and] at hv'
        obtain ⟨rfl, rfl⟩ := hv'
        have hcK : ¬ cap = K := by omega
        have hnb : ∀ n1 m, Calls Try.prog 34 #[.slice (some ⟨g, K, none⟩) k (cap - K)] (((w.drewN n1).setCell ⟨q, 1, none⟩ (.int .i64 ((K : Int) + (k : Int)))).drewN m) fun e w' => e = .returned (.int .u64 ((num ((L.drop K).take k) : Nat) : Int)) ∧ w' = (((w.drewN n1).setCell ⟨q, 1, none⟩ (.int .i64 ((K : Int) + (k : Int)))).drewN m) := by
          intro n1 m
          have hmv := Rr.move (w := w.drewN n1) H.out (K + k) (by omega)
          have hs1 := (sl_of_owns hmv.2.2.2.1)
          rw [HV.out] at hs1
          have hs2 := hs1.part K k (by rw [bls_length]; omega) (by omega)
          rw [Nat.zero_add] at hs2
          have e : ((bls L).drop K).take k = bls ((L.drop K).take k) := by simp [bls, List.map_drop, List.map_take]
          rw [e] at hs2
          exact (number_any _ _ (((w.drewN n1).setCell ⟨q, 1, none⟩ (.int .i64 ((K : Int) + (k : Int)))).drewN m) hs2 (by simp; omega)).mono fun _ _ ⟨h, h'⟩ => ⟨h, h'.symm⟩
        have b1 : (K : Int) ≤ (K : Int) + (k : Int) := by omega
        have b2 : (K : Int) + (k : Int) ≤ (cap : Int) := by omega
        have b3 : (0 : Int) ≤ (K : Int) + (k : Int) := by omega
        have w3 : IntKind.i64.wrap (K : Int) = (K : Int) := IntWalk.i64_in _ (by omega)
        have HLEN := Lib.hid hlen
        clear hlen
        go_enter Try.func23, Try.ntmps23
        go_wp2_with (go_at_call 32; refine (width_any _ _).mono ?_; rintro e w' ⟨rfl, rfl⟩; rw [HKW.out])
        go_quiet (fail)
        go_wp2
        generalize nq = n1 at *
        have tn : ((K : Int) + (k : Int)).toNat - K = k := by omega
        have hnb1 := hnb n1
        clear hnb
        go_quiet ((go_at_call 34; exact Calls.quiet_of_same (hnb1 _)))
        go_wp2
        go_ret
        refine ⟨rfl, Rr.move (w := w.drewN n1) H.out (K + k) (by omega), ?_⟩
        exact (((Kept.refl (One q) w).drewN n1).setCell (p := ⟨q, 1, none⟩) (.inl rfl) _).drewN _
  · have e1 : rval B K E (wid width) = 0 := by simp [rval, short, hf]
    have e2 : rat B K E (wid width) = K := by simp [rat, short, hf]
    have e3 : rfail B K E (wid width) = E := by simp [rfail, hf]
    rw [e1, e2, e3]
    have hne : ((E : Int) != 0) = true := by simp; omega
    clear e1 e2 e3
    go_enter Try.func23, Try.ntmps23
    go_wp2_with (go_at_call 32; refine (width_any _ _).mono ?_; rintro e w' ⟨rfl, rfl⟩)
    go_ret
    exact ⟨rfl, H.out, Kept.refl _ _⟩


set_option maxHeartbeats 400000 in
theorem rend_any (base q : Nat) (v : Value) (L : List Bool) (B : List Nat) (K E : Nat) (w : World) (h : Rr base w q v L K E) (hL : L.length = 8 * B.length) :
    Calls Try.prog 28 #[.pointer (some ⟨q, 0, none⟩)] w fun e w' => e = .returned (.int .i64 ((rend B K E : Nat) : Int)) ∧ ∃ n, w' = w.drewN n := by
  have hc0 := cell_of (i := 0) h.2.1
  have hc1 := cell_of (i := 1) h.2.1
  have hc2 := cell_of (i := 2) h.2.1
  simp only [List.getElem?_toArray, List.getElem?_cons_zero, List.getElem?_cons_succ] at hc0 hc1 hc2
  obtain ⟨ao, cap, hv, hcap, hmax⟩ := owns_shape h.2.2.2.1
  rw [hv] at hc0
  have HL := Lib.hid hL
  clear h hv hL
  by_cases hf : E = 0
  · subst hf
    by_cases ha : K < L.length
    · have e1 : rend B K 0 = 3 := by have := HL.out; simp [rend, show K < 8 * B.length by omega]
      rw [e1]
      clear e1
      go_enter Try.func28, Try.ntmps28
      go_wp2
      go_quiet (fail)
      go_wp2
      go_ret
      exact ⟨rfl, _, rfl⟩
    · have e1 : rend B K 0 = 0 := by have := HL.out; simp [rend, show ¬ K < 8 * B.length by omega]
      rw [e1]
      have hd : decide (K < L.length) = false := by simp [ha]
      clear e1
      go_enter Try.func28, Try.ntmps28
      go_wp2
      go_quiet (fail)
      go_wp2
      go_ret
      exact ⟨rfl, _, rfl⟩
  · have e1 : rend B K E = E := by simp [rend, hf]
    have hne : ((E : Int) != 0) = true := by simp; omega
    rw [e1]
    clear e1
    go_enter Try.func28, Try.ntmps28
    go_wp2
    go_ret
    exact ⟨rfl, 0, rfl⟩

/-- Bits that are all 0, up to a place. -/
def zeros (L : List Bool) (K t : Nat) : Prop := ∀ j, K ≤ j → j < t → L.getD j false = false
theorem num_zero_iff : ∀ (n : Nat) (l : List Bool), l.length = n → (num l = 0 ↔ ∀ j, j < n → l.getD j false = false) := by
  intro n
  induction n with
  | zero => intro l hl; have : l = [] := List.eq_nil_of_length_eq_zero hl; subst this; simp [num]
  | succ n ih =>
    intro l hl
    obtain ⟨i, x, rfl⟩ := snoc_of_pos l (by omega)
    have hi : i.length = n := by simpa using hl
    have h1 := ih i hi
    rw [num_snoc]
    constructor
    · intro h j hj
      have h2 : num i = 0 := by omega
      have h3 : x = false := by cases x <;> simp_all
      by_cases hjn : j < n
      · have := h1.1 h2 j hjn
        simpa [List.getD, List.getElem?_append_left (show j < i.length by omega)] using this
      · have : j = i.length := by omega
        subst this
        simp [List.getD, h3]
    · intro h
      have h3 : x = false := by have := h n (by omega); simpa [List.getD, ← hi] using this
      have h2 : num i = 0 := h1.2 (fun j hj => by have := h j (by omega); simpa [List.getD, List.getElem?_append_left (show j < i.length by omega)] using this)
      rw [h2, h3]; rfl

def RFInv (w : World) (q : Nat) (L : List Bool) (K : Nat) (a : Act) (w' : World) : Prop :=
  w' = w ∧ a.defers = [] ∧ a.tmps.size = 31 ∧ a.tmps[0]? = some (.pointer (some ⟨q, 0, none⟩)) ∧ ∃ t, K ≤ t ∧ t ≤ K + pad K ∧ a.tmps[2]? = some (.int .i64 ((t : Nat) : Int)) ∧ zeros L K t

set_option maxHeartbeats 400000 in
theorem rfill2_any (base q : Nat) (v : Value) (L : List Bool) (B : List Nat) (K E : Nat) (w : World) (h : Rr base w q v L K E) (hL : L.length = 8 * B.length) (hN : num L = be B) (hl : B.length ≤ 200) :
    Calls Try.prog 21 #[.pointer (some ⟨q, 0, none⟩)] w fun e w' => e = .returned (.tuple #[]) ∧ RrPost base w q v L (fat B K E) (ffail B K E) w' := by
  have hc0 := cell_of (i := 0) h.2.1
  have hc1 := cell_of (i := 1) h.2.1
  have hc2 := cell_of (i := 2) h.2.1
  have hz1 := frozen_of (i := 1) h.2.1
  have hz2 := frozen_of (i := 2) h.2.1
  simp only [List.getElem?_toArray, List.getElem?_cons_zero, List.getElem?_cons_succ] at hc0 hc1 hc2
  have hK := h.2.2.2.2
  obtain ⟨ao, cap, hv, hcap, hmax⟩ := owns_shape h.2.2.2.1
  have H := Lib.hid h
  have HV := Lib.hid hv
  have HL := Lib.hid hL
  rw [hv] at hc0
  have hpl := pad_le K
  have hpm := pad_mod K
  have hpk : K + pad K ≤ L.length := by omega
  have hLb : L.length ≤ 1600 := by omega
  by_cases hf : E = 0
  · subst hf
    have hs : short B K 0 (pad K) = false := by simp [short]; omega
    have hpart := num_part L K (pad K) hpk
    have hv0 : rval B K 0 (pad K) = num ((L.drop K).take (pad K)) := by
      rw [hpart, hN, hL]; simp only [rval, hs, cond_false]
    have hiff : rval B K 0 (pad K) = 0 ↔ zeros L K (K + pad K) := by
      rw [hv0, num_zero_iff (pad K) _ (by simp; omega)]
      constructor
      · intro hh j h1 h2
        have := hh (j - K) (by omega)
        simpa [List.getD, List.getElem?_take, List.getElem?_drop, show j - K < pad K by omega, show K + (j - K) = j by omega] using this
      · intro hh j hj
        have := hh (K + j) (by omega) (by omega)
        simpa [List.getD, List.getElem?_take, List.getElem?_drop, hj] using this
    have hra : rat B K 0 (pad K) = K + pad K := by simp [rat, hs]
    have hrf : rfail B K 0 (pad K) = 0 := by simp [rfail, show ¬ 8 * B.length < K + pad K by omega]
    have hgood : zeros L K (K + pad K) → fat B K 0 = K + pad K ∧ ffail B K 0 = 0 := by
      intro hz
      have h0 := hiff.2 hz
      exact ⟨by simp [fat, h0, hra], by simp [ffail, h0, hrf]⟩
    have hbad : ¬ zeros L K (K + pad K) → fat B K 0 = K ∧ ffail B K 0 = 5 := by
      intro hz
      have h0 : (rval B K 0 (pad K) != 0) = true := bne_iff_ne.2 (fun e => hz (hiff.1 e))
      exact ⟨by simp [fat, h0], by simp [ffail, h0]⟩
    have HG := Lib.hid hgood
    have HB := Lib.hid hbad
    have HPM := Lib.hid hpm
    clear h hv hN hL hs hpart hv0 hiff hra hrf hgood hbad hpm
    go_enter Try.func21, Try.ntmps21
    go_wp2
    refine wp_loop (RFInv w q L K) (fun a _ => K + 8 - (intOf (a.tmps.getD 2 undef)).toNat) ?_ ?_
    · exact ⟨rfl, rfl, rfl, rfl, K, Nat.le_refl _, by omega, rfl, fun j h1 h2 => by omega⟩
    · rintro ⟨tm, df⟩ w1 ⟨rfl, rfl, hs, h0, t, ht1, ht2, h2, hzt⟩
      simp only at hs h0 h2
      obtain ⟨f, hf, hg⟩ := fr_open hs
      have e0 := hg _ _ h0
      have e2 := hg _ _ h2
      simp only [List.range, List.range.loop, List.map] at hf
      rw [e0, e2] at hf
      clear e0 e2 hg hs h0 h2
      subst hf
      have HZT := Lib.hid hzt
      clear hzt
      by_cases htp : t = K + pad K
      · have g1 : ((t : Int) % 8 != 0) = false := by have := HPM.out; simp; omega
        have HTP := Lib.hid htp
        clear htp
        go_wp2
        go_end0
        obtain ⟨e1, e2⟩ := HG.out (HTP.out ▸ HZT.out)
        rw [e1, e2, ← HTP.out]
        exact ⟨rfl, H.out.move t (by omega), (Kept.refl (One q) w1).setCell (p := ⟨q, 1, none⟩) (.inl rfl) _⟩
      · have g1 : ((t : Int) % 8 != 0) = true := by simp; unfold pad at ht2 htp; omega
        obtain ⟨g, cap', hv', hcap', hmax', hbg, hgl⟩ := owns_pos H.out.2.2.2.1 (by omega)
        rw [HV.out] at hv'
        simp only [Value.slice.injEq, true_and] at hv'
        obtain ⟨rfl, rfl⟩ := hv'
        have hrow := H.out.2.2.2.1
        rw [HV.out] at hrow
        have hd := hrow.cellAt t (by omega)
        have hbt : (bls L)[t]? = some (.bool (L.getD t false)) := by simp [bls, show t < L.length by omega]
        rw [hbt] at hd
        have hi1 : (t : Int) < (L.length : Int) := by omega
        cases hb : L.getD t false
        · rw [hb] at hd
          have HB0 := Lib.hid hb
          clear hb hbt hrow
          go_wp2
          refine ⟨⟨rfl, rfl, rfl, rfl, t + 1, by omega, by omega, rfl, ?_⟩, ?_⟩
          · intro j h1 h2
            by_cases hjt : j = t
            · rw [hjt]; exact HB0.out
            · exact HZT.out j h1 (by omega)
          · simp [intOf]
            omega
        · rw [hb] at hd
          have hnz : ¬ zeros L K (K + pad K) := fun hh => by have := hh t ht1 (by omega); rw [hb] at this; cases this
          have HNZ := Lib.hid hnz
          clear hb hbt hrow hnz
          go_wp2
          obtain ⟨e1, e2⟩ := HB.out HNZ.out
          refine bodyPost_ret (v := .tuple #[]) (results_none rfl _ _ _) rfl ?_
          rw [e1, e2]
          exact ⟨rfl, H.out.failed 5, (Kept.refl (One q) w1).setCell (p := ⟨q, 2, none⟩) (.inl rfl) _⟩
  · have e1 : fat B K E = K := by simp [fat, rval, rat, short, hf]
    have e2 : ffail B K E = E := by simp [ffail, rval, rfail, short, hf]
    have hne : ((E : Int) != 0) = true := by simp; omega
    rw [e1, e2]
    clear e1 e2 h hv hN hL
    go_enter Try.func21, Try.ntmps21
    go_wp2
    refine bodyPost_ret (v := .tuple #[]) (results_none rfl _ _ _) rfl ?_
    exact ⟨rfl, H.out, Kept.refl _ _⟩

end Go.Proofs.Ytnchbclfjaghnaa
