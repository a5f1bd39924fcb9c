/- Slices of integers: the reference's Ints; the library's Clone, Grow and Concat. -/
import Derived.Test.YtkpmofomlplihaaChs
import Derived.Test.YtkpmofomlplihaaCut
import Derived.Lib.AppendZerosOnto
import Derived.Deep.RegionLaw
import Derived.Deep.OwnRows
namespace Go.Proofs.Ytkpmofomlplihaa
open Go.RowKit Bx

def ivs (zs : List Int) : List Value := zs.map (Value.int .i64)

theorem ivs_length (zs : List Int) : (ivs zs).length = zs.length := by simp [ivs]

theorem owns_weak {w : World} {base base' : Nat} {e : TypeId} {v : Value} {n : Nat} {xs : List Value} (h : w.ownsRow base e 1 v n xs) (hb : base' ≤ base) : w.ownsRow base' e 1 v n xs := by
  refine ⟨h.1, ?_⟩
  rcases h.2 with h2 | ⟨g, cap, cur, e1, e2, e3⟩
  · exact .inl h2
  · exact .inr ⟨g, cap, cur, e1, Nat.le_trans hb e2, e3⟩

theorem w64_in (n : Int) (h : -9223372036854775808 ≤ n ∧ n ≤ 9223372036854775807) : wrap64 n = n := by unfold wrap64; omega

theorem info_int : (Try.prog.info? 3).map (fun i => (i.zero, i.size, i.bytes)) = some (some (.int .i64 0), 1, 8) := by kernel_rfl

theorem info_ints : (Try.prog.info? 22).map (fun i => (i.zero, i.size, i.bytes)) = some (some (.slice none 0 0), 1, 24) := by kernel_rfl

theorem sl_alloc (w : World) (xs : List Value) (e : TypeId) (n : Nat) (hn : xs.length = n) (hm : n ≤ maxLen) : Sl (w.alloc (.cells xs.toArray e)) (.slice (some ⟨w.heap.size, 0, none⟩) n n) xs := by
  subst hn
  refine ⟨_, xs.length, rfl, Nat.le_refl _, hm, fun h => by simp at h, fun _ => ⟨w.heap.size, 0, rfl, by simp, fun j u hu => ?_⟩⟩
  rw [Nat.zero_add, World.cell?_alloc_mark, List.getElem?_toArray]
  exact hu

theorem w64_i (n : Int) (h : -9223372036854775808 ≤ n ∧ n ≤ 9223372036854775807) : wrap64 n = n := by unfold wrap64; omega

def IntsInv (va vb : Value) (A B : List Int) (w : World) (a : Act) (w' : World) : Prop :=
  a.defers = [] ∧ a.tmps.size = 26 ∧ a.tmps[0]? = some va ∧ a.tmps[1]? = some vb ∧ ∃ i, i ≤ A.length ∧ a.tmps[5]? = some (.int .i64 ((i : Nat) : Int)) ∧ A.take i = B.take i ∧ ∃ n, w' = w.drewN n

theorem take_stepI {A B : List Int} {i : Nat} (h : A.take i = B.take i) (h1 : i < A.length) (h2 : i < B.length) (hx : A.getD i 0 = B.getD i 0) : A.take (i + 1) = B.take (i + 1) := by
  rw [List.take_succ_eq_append_getElem h1, List.take_succ_eq_append_getElem h2, h]
  simp only [List.getD_eq_getElem?_getD, List.getElem?_eq_getElem h1, List.getElem?_eq_getElem h2, Option.getD_some] at hx
  rw [hx]

set_option maxHeartbeats 400000 in
theorem ints_any (va vb : Value) (A B : List Int) (w : World) (ha : Sl w va (A.map (Value.int .i64))) (hb : Sl w vb (B.map (Value.int .i64))) (hl : A.length < 1099511627776) :
    Calls Try.prog 16 #[va, vb] w fun e w' => e = .returned (.bool (decide (A = B))) ∧ ∃ n, w' = w.drewN n := by
  obtain ⟨ao, ca, rfl, _, _, hca'⟩ := ha.ints
  obtain ⟨bo, cb, rfl, _, _, hcb'⟩ := hb.ints
  by_cases hlen : A.length = B.length
  · have HCA := Lib.hid (show 0 < A.length → ∃ b off, ao = some ⟨b, off, none⟩ ∧ ∀ j, j < A.length → w.cell? ⟨b, off + j, none⟩ = some (.int .i64 (A.getD j 0)) from fun h0 => by obtain ⟨b, off, e, _, h⟩ := hca' h0; exact ⟨b, off, e, h⟩)
    have HCB := Lib.hid (show 0 < B.length → ∃ b off, bo = some ⟨b, off, none⟩ ∧ ∀ j, j < B.length → w.cell? ⟨b, off + j, none⟩ = some (.int .i64 (B.getD j 0)) from fun h0 => by obtain ⟨b, off, e, _, h⟩ := hcb' h0; exact ⟨b, off, e, h⟩)
    have ht : ((A.length : Int) != (B.length : Int)) = false := by simp [hlen]
    have HLEN := Lib.hid hlen
    clear ha hb hca' hcb' hlen
    go_enter Try.func16, Try.ntmps16
    go_wp2
    refine wp_loop (IntsInv (.slice ao A.length ca) (.slice bo B.length cb) A B w) (fun a _ => A.length - (intOf (a.tmps.getD 5 undef)).toNat) ?_ ?_
    · exact ⟨rfl, rfl, rfl, rfl, 0, Nat.zero_le _, rfl, by simp, 0, rfl⟩
    · rintro ⟨tm, df⟩ w1 ⟨rfl, hs, h0, h1, i, hi, h5, htk, n1, rfl⟩
      simp only at hs h0 h1 h5
      obtain ⟨f, hf, hg⟩ := fr_open hs
      have e0 := hg _ _ h0
      have e1 := hg _ _ h1
      have e5 := hg _ _ h5
      simp only [List.range, List.range.loop, List.map] at hf
      rw [e0, e1, e5] at hf
      clear e0 e1 e5 hg hs h0 h1 h5
      subst hf
      have HTK := Lib.hid htk
      clear htk
      by_cases hlt : i < A.length
      · obtain ⟨b1, o1, rfl, hc1⟩ := HCA.out (by omega)
        obtain ⟨b2, o2, rfl, hc2⟩ := HCB.out (by have := HLEN.out; omega)
        have hd1 := hc1 i hlt
        have hd2 := hc2 i (by have := HLEN.out; omega)
        clear hc1 hc2
        have hi1 : (i : Int) < (A.length : Int) := by omega
        have hi2 : (i : Int) < (B.length : Int) := by have := HLEN.out; omega
        generalize hx : A.getD i 0 = x at *
        generalize hy : B.getD i 0 = y at *
        have HX := Lib.hid hx
        have HY := Lib.hid hy
        clear hx hy
        by_cases hxy : x = y
        · have hxb : (x != y) = false := by simp [hxy]
          have HXY := Lib.hid hxy
          clear hxy
          go_wp2
          go_quiet (fail)
          go_wp2
          refine ⟨⟨rfl, rfl, rfl, rfl, i + 1, hlt, rfl, ?_, _, rfl⟩, ?_⟩
          · exact take_stepI HTK.out hlt (by have := HLEN.out; omega) (by rw [HX.out, HY.out, HXY.out])
          · simp [intOf]; omega
        · have hxb : (x != y) = true := bne_iff_ne.2 hxy
          have HNE : ¬ A = B := fun e => hxy (by rw [← HX.out, ← HY.out, e])
          have e1 : decide (A = B) = false := by simp [HNE]
          clear hxy HNE
          go_wp2
          go_quiet (fail)
          go_wp2
          go_ret
          exact ⟨by rw [e1]; rfl, _, World.drewN_drewN _ _ _⟩
      · have e1 : A = B := by
          have h := HTK.out
          have := HLEN.out
          rwa [List.take_of_length_le (by omega), List.take_of_length_le (by omega)] at h
        have e2 : decide (A = B) = true := by simp [e1]
        clear e1
        go_wp2
        go_ret
        exact ⟨by rw [e2]; rfl, _, rfl⟩
  · have hne : ¬ A = B := fun e => hlen (by rw [e])
    have e1 : decide (A = B) = false := by simp [hne]
    rw [e1]
    have ht : ((A.length : Int) != (B.length : Int)) = true := bne_iff_ne.2 (by omega)
    clear ha hb e1 hne hca' hcb'
    go_enter Try.func16, Try.ntmps16
    go_wp2
    go_ret
    exact ⟨rfl, 0, rfl⟩

theorem ivs_one (zs : List Int) : ∀ u ∈ ivs zs, u.oneCell' = true := by
  intro u hu
  obtain ⟨_, _, rfl⟩ := List.mem_map.1 hu
  rfl

theorem src_ivs {w : World} {ao : Option Addr} {n cap : Nat} {zs : List Int} (h : Sl w (.slice ao n cap) (ivs zs)) : SrcIs w 1 ao n cap (ivs zs) ∧ n = zs.length := by
  obtain ⟨ao', cap', e, hs⟩ := src_of_sl h (ivs_one zs)
  simp only [Value.slice.injEq, ivs_length] at e
  obtain ⟨rfl, rfl, rfl⟩ := e
  rw [ivs_length] at hs
  exact ⟨hs, rfl⟩

theorem eq_nil (w : World) (a : Option Addr) (n c : Nat) : (binOp .eql 22 (.slice a n c) (.slice none 0 0)).run Try.prog w = .ok (.bool a.isNone) w := by
  simp only [binOp]
  simp [Op.equal, Op.maxDepth, Lib.run_equalIn_slice_nil w 9999 22 3 a n c 0 0 Try.underlying22]

set_option maxHeartbeats 1000000 in
theorem clone_any (u : Value) (zs : List Int) (w : World) (hs : Sl w u (ivs zs)) (hl : zs.length < 1099511627776) :
    Calls Try.prog 26 #[u] w fun e w' => ∃ u', e = .returned u' ∧ w'.ownsRow w.heap.size 3 1 u' zs.length (ivs zs) ∧ Kept Nix w w' := by
  obtain ⟨ao, cap, rfl, hc, hm, hno, hp⟩ := hs
  cases ao with
  | none =>
    have h0 := hno rfl
    have hz : zs = [] := List.eq_nil_of_length_eq_zero (by rw [ivs_length] at hc; omega)
    subst hz
    subst h0
    clear hno hp hc hm
    have hnl := fun w => eq_nil w none 0 0
    rw [show (ivs []).length = 0 from rfl]
    go_enter Try.func26, Try.ntmps26
    go_wp2
    go_ret
    exact ⟨_, rfl, World.ownsRow_nil _ _ _ _, Kept.refl _ _⟩
  | some a =>
    have hs : Sl w (.slice (some a) (ivs zs).length cap) (ivs zs) := ⟨some a, cap, rfl, hc, hm, hno, hp⟩
    obtain ⟨hsrc, _⟩ := src_ivs hs
    rw [ivs_length] at hsrc ⊢
    have hsrc2 := hsrc.alloc (.cells #[] 3)
    have hown := World.ownsRow_made (base := w.heap.size) (e := 3) (size := 1) w #[] 0 (Nat.le_refl _) (by simp [maxLen]) (by simp)
    have HSRC := Lib.hid hsrc2
    have HOWN := Lib.hid hown
    have hb1 : 0 + zs.length ≤ maxLen := by simp [maxLen]; omega
    have hb2 : (0 + zs.length) * 8 ≤ 140737488355328 := by omega
    have HB1 := Lib.hid hb1
    have HB2 := Lib.hid hb2
    clear hno hp hc hm hs hsrc hsrc2 hown hb1 hb2
    have hnl := fun w => eq_nil w (some a) zs.length cap
    go_enter Try.func26, Try.ntmps26
    go_wp2_with (refine wpList_app _ rfl _ _ 22 rfl w.heap.size 3 (.int .i64 0) 1 8 Try.underlying22 info_int rfl (by decide) (.slice (some ⟨w.heap.size, 0, none⟩) 0 0) 0 [] rfl HOWN.out (some a) _ cap _ rfl HSRC.out HB1.out HB2.out (by simp) ?_
                 intro v6 w6 o6 g6 n6)
    go_ret
    exact ⟨_, rfl, by simpa using o6, kept_new g6⟩

theorem run_grow_zeros (n : Nat) (h0 : 0 < n) (hn : n < 1099511627776) (w : World) (ty : TypeId) : (Builtin.append_ #[22, 3] ty #[.slice none 0 0, .int .i64 (n : Int)]).run Try.prog w =
    .ok (.slice (some ⟨w.heap.size, 0, none⟩) n (grownCap w n 0 3)) (w.drew.alloc (.cells (Builtin.zeroCells #[.int .i64 0] n ++ Builtin.zeroCells #[.int .i64 0] (grownCap w n 0 3 - n)) 3)) := by
  obtain ⟨i0, hi0, hz0, hzs, hzb⟩ := info_parts info_int
  have hold : (Builtin.firstCells i0.size 0 (.slice none 0 0)).run Try.prog w.drew = .ok ([] : List Value).toArray w.drew := run_firstCells_none w.drew i0.size 0 0 0
  have h := Lib.run_append_grow_zeros (P := Try.prog) w 22 3 ty 3 i0 (.int .i64 0) .i64 .i64 Try.underlying22 Try.underlying3 hi0 hz0 none 0 0 [] hold n h0 (by omega) (by omega) (by omega) (by rw [hzb]; omega) (growslice_fits (by omega) (by rw [hzb]; omega))
  simp only [Nat.zero_add] at h
  rw [h]
  have e : ([] : List Value).toArray ++ Builtin.zeroCells (Value.int IntKind.i64 0).cells n = Builtin.zeroCells #[.int .i64 0] n := by simp [Value.cells]
  rw [e]
  rfl

theorem wpList_zeros {ops : Array Oper} {rest : List Oper} {o : Oper} {a : Act} {w : World} {Q : Exit → Act → World → Prop} (hgd : o.guard = none) (s x : Operand)
    (ho : o.op = .call { callee := .builtin .append, args := #[s, x], argTypes := #[22, 3] }) (n : Nat) (h0 : 0 < n) (hn : n < 1099511627776) (hs : a.eval s = .slice none 0 0) (hx : a.eval x = .int .i64 (n : Int))
    (h : wpList Try.prog ops Q rest (a.put o.dst (.slice (some ⟨w.heap.size, 0, none⟩) n (grownCap w n 0 3))) (w.drew.alloc (.cells (Builtin.zeroCells #[.int .i64 0] n ++ Builtin.zeroCells #[.int .i64 0] (grownCap w n 0 3 - n)) 3))) : wpList Try.prog ops Q (o :: rest) a w := by
  refine wpList_plain hgd fun K hK => ?_
  have hr := run_grow_zeros n h0 hn w o.type
  unfold Oper.wp execOp
  simp only [ho, resolve, invoke, builtin, Sem.run_bind, Sem.run_pure, Result.andThen_ok, List.map_toArray, List.map_cons, List.map_nil, hs, hx, hr]
  exact hK _ _ h

set_option maxHeartbeats 1000000 in
theorem grow_any (n : Nat) (hn : n < 1099511627776) (w : World) :
    Calls Try.prog 30 #[.slice none 0 0, .int .i64 (n : Int)] w fun e w' => ∃ u', e = .returned u' ∧ w'.ownsRow w.heap.size 3 1 u' 0 [] ∧ Kept Nix w w' := by
  by_cases h0 : n = 0
  · subst h0
    go_enter Try.func30, Try.ntmps30
    go_wp2
    go_ret
    exact ⟨_, rfl, World.ownsRow_nil _ _ _ _, Kept.refl _ _⟩
  · have hG1 := grownCap_ge w n 0 3
    have hG2 := grownCap_le_maxLen w n 0 3 (by simp [maxLen]; omega)
    have h0' : 0 < n := by omega
    have hown := World.ownsRow_made (base := w.heap.size) (e := 3) (size := 1) w.drew (Builtin.zeroCells #[.int .i64 0] n ++ Builtin.zeroCells #[.int .i64 0] (grownCap w n 0 3 - n)) (grownCap w n 0 3) (Nat.le_refl _) hG2 (by simp [size_zeroCells]; omega)
    have HOWN := Lib.hid hown
    have hwn : wrap64 (n : Int) = (n : Int) := w64_in _ (by omega)
    have HN := Lib.hid hn
    have KD := Lib.hid (show Kept Nix w (w.drew.alloc (.cells (Builtin.zeroCells #[.int .i64 0] n ++ Builtin.zeroCells #[.int .i64 0] (grownCap w n 0 3 - n)) 3)) from ((Kept.refl Nix w).drew).alloc _)
    have HG1 := Lib.hid hG1
    clear hG2 hown hG1 h0
    go_enter Try.func30, Try.ntmps30
    go_upto_region 5 with fail
    go_wp2_with (refine wpList_zeros rfl _ _ rfl n h0' HN.out rfl rfl ?_
                 generalize (w.drew.alloc (.cells (Builtin.zeroCells #[.int .i64 0] n ++ Builtin.zeroCells #[.int .i64 0] (grownCap w n 0 3 - n)) 3)) = w6 at *
                 generalize grownCap w n 0 3 = G at *
                 have hG0 : ¬ G = 0 := by have := HG1.out; omega)
    go_ret
    exact ⟨_, rfl, HOWN.out, KD.out⟩

def CatA (v : Value) (L : List (List Int)) (w : World) (a : Act) (w' : World) : Prop :=
  a.defers = [] ∧ a.tmps.size = 36 ∧ a.tmps[0]? = some v ∧ a.tmps[9]? = some v ∧ a.tmps[10]? = some (.int .i64 (L.length : Int)) ∧ ∃ i : Nat, i ≤ L.length ∧ a.tmps[11]? = some (.int .i64 (i : Int)) ∧ a.tmps[3]? = some (.int .i64 ((L.take i).flatten.length : Int)) ∧ w' = w

def CatB (v : Value) (L : List (List Int)) (w : World) (a : Act) (w' : World) : Prop :=
  a.defers = [] ∧ a.tmps.size = 36 ∧ a.tmps[25]? = some v ∧ a.tmps[26]? = some (.int .i64 (L.length : Int)) ∧ ∃ i : Nat, i ≤ L.length ∧ a.tmps[27]? = some (.int .i64 (i : Int)) ∧ Kept Nix w w' ∧ ∃ u, a.tmps[6]? = some u ∧ w'.ownsRow w.heap.size 3 1 u (L.take i).flatten.length (ivs (L.take i).flatten)

theorem take_flat (L : List (List Int)) (i : Nat) (h : i < L.length) : (L.take (i + 1)).flatten = (L.take i).flatten ++ L.getD i [] := by
  rw [List.take_succ_eq_append_getElem h, List.flatten_append]
  simp [List.getD, h]

theorem take_flat_le (L : List (List Int)) (i : Nat) : (L.take i).flatten.length ≤ L.flatten.length := by
  have h : L.flatten = (L.take i).flatten ++ (L.drop i).flatten := by rw [← List.flatten_append, List.take_append_drop]
  rw [h, List.length_append]
  omega

set_option maxHeartbeats 2000000 in
theorem concat_any (v : Value) (L : List (List Int)) (w : World) (hch : Chs w v L) (hl : L.length < 1099511627776) (hf : L.flatten.length < 1099511627776) :
    Calls Try.prog 25 #[v] w fun e w' => ∃ u', e = .returned u' ∧ w'.ownsRow w.heap.size 3 1 u' L.flatten.length (ivs L.flatten) ∧ Kept Nix w w' := by
  obtain ⟨ao, cap, rfl, hc1, hm1, _⟩ := hch.open
  have HCH := Lib.hid hch
  have HF := Lib.hid hf
  clear hc1 hm1 hch hf
  go_enter Try.func25, Try.ntmps25
  go_wp2
  refine wp_loop (CatA (.slice ao L.length cap) L w) (fun a _ => L.length - (intOf (a.tmps.getD 11 undef)).toNat) ?_ ?_
  · exact ⟨rfl, rfl, rfl, rfl, rfl, 0, Nat.zero_le _, rfl, rfl, rfl⟩
  · rintro ⟨tm, df⟩ w1 ⟨rfl, hs, e0, e9, e10, i, hi, e11, e3, rfl⟩
    simp only at hs e0 e9 e10 e11 e3
    obtain ⟨f, hf, hg⟩ := fr_open hs
    have g0 := hg _ _ e0
    have g9 := hg _ _ e9
    have g10 := hg _ _ e10
    have g11 := hg _ _ e11
    have g3 := hg _ _ e3
    simp only [List.range, List.range.loop, List.map] at hf
    rw [g0, g9, g10, g11, g3] at hf
    clear g0 g9 g10 g11 g3 hg hs e0 e9 e10 e11 e3
    subst hf
    by_cases hlt : i < L.length
    · have hd : decide (i < L.length) = true := decide_eq_true hlt
      obtain ⟨b, off, rfl, hb, A, C, hh⟩ := HCH.out.at (by omega)
      have hcell := (hh i hlt).1
      have hi1 : (i : Int) < (L.length : Int) := by omega
      have htf := take_flat L i hlt
      have hle := take_flat_le L (i + 1)
      have HI := Lib.hid hlt
      have hsum : ((L.take i).flatten.length : Int) + ((L.getD i []).length : Int) = ((L.take (i + 1)).flatten.length : Int) := by rw [htf, List.length_append]; simp
      have hx : (L.take (i + 1)).flatten.length < 1099511627776 := by have := HF.out; omega
      generalize hs1 : (L.take (i + 1)).flatten.length = s1 at *
      have HS1 := Lib.hid hs1
      clear hs1
      generalize (L.take i).flatten.length = s0 at *
      generalize (L.getD i []).length = li at *
      generalize A i = ai at *
      generalize C i = ci at *
      have hw : wrap64 ((s0 : Int) + (li : Int)) = (s1 : Int) := by rw [hsum]; exact w64_in _ (by omega)
      have hneg : decide ((s1 : Int) < 0) = false := decide_eq_false (by omega)
      clear hh hi hlt hb htf hle hsum hx
      go_wp2
      rw [hw]
      refine ⟨⟨rfl, rfl, rfl, rfl, rfl, i + 1, HI.out, by simp, ?_, rfl⟩, ?_⟩
      · rw [HS1.out]; rfl
      · have := HI.out
        simp [intOf]
        omega
    · have hd : decide (i < L.length) = false := decide_eq_false hlt
      have hiL : i = L.length := by omega
      subst hiL
      rw [List.take_length]
      have GR := grow_any L.flatten.length HF.out w1
      generalize hfl : L.flatten.length = fl at *
      have HFL := Lib.hid hfl
      clear hlt hi hfl
      go_wp2_with (go_at_call 30; refine GR.mono ?_; rintro e w2 ⟨u2, rfl, ho2, hk2⟩; have HO2 := Lib.hid ho2; have HK2 := Lib.hid hk2; clear ho2 hk2)
      refine wp_loop (CatB (.slice ao L.length cap) L w1) (fun a _ => L.length - (intOf (a.tmps.getD 27 undef)).toNat) ?_ ?_
      · exact ⟨rfl, rfl, rfl, rfl, 0, Nat.zero_le _, rfl, HK2.out, u2, rfl, HO2.out⟩
      · clear HO2 HK2 GR
        rintro ⟨tm, df⟩ w3 ⟨rfl, hs, e25, e26, i, hi, e27, hk3, u3, e6, ho3⟩
        simp only at hs e25 e26 e27 e6
        obtain ⟨f3, hf, hg⟩ := fr_open hs
        have g25 := hg _ _ e25
        have g26 := hg _ _ e26
        have g27 := hg _ _ e27
        have g6 := hg _ _ e6
        simp only [List.range, List.range.loop, List.map] at hf
        rw [g25, g26, g27, g6] at hf
        clear g25 g26 g27 g6 hg hs e25 e26 e27 e6
        subst hf
        have HK3 := Lib.hid hk3
        have HO3 := Lib.hid ho3
        by_cases hlt : i < L.length
        · have hd3 : decide (i < L.length) = true := decide_eq_true hlt
          obtain ⟨b, off, rfl, hb, A, C, hh⟩ := (HCH.out.nix hk3).at (by omega)
          obtain ⟨hcell, hsl⟩ := hh i hlt
          obtain ⟨hsrc, _⟩ := src_ivs (zs := L.getD i []) hsl
          have hi1 : (i : Int) < (L.length : Int) := by omega
          have htf := take_flat L i hlt
          have hle := take_flat_le L (i + 1)
          have hlen : (L.take (i + 1)).flatten.length = (L.take i).flatten.length + (L.getD i []).length := by rw [htf, List.length_append]
          have hb1 : (L.take i).flatten.length + (L.getD i []).length ≤ maxLen := by rw [← hlen]; have := HF.out; have := HFL.out; unfold maxLen; omega
          have hb2 : ((L.take i).flatten.length + (L.getD i []).length) * 8 ≤ 140737488355328 := by rw [← hlen]; have := HF.out; have := HFL.out; omega
          have HI := Lib.hid hlt
          have HSRC := Lib.hid hsrc
          have HTF := Lib.hid htf
          have HB1 := Lib.hid hb1
          have HB2 := Lib.hid hb2
          clear hh hi hlt hb htf hle hlen hb1 hb2 hsrc hsl hk3 ho3
          generalize hT : (L.take i).flatten = T at *
          generalize hR : L.getD i [] = R at *
          have HTT := Lib.hid hT
          clear hT hR
          generalize A i = ai at *
          generalize C i = ci at *
          go_wp2_with (refine wpList_app _ rfl _ _ 22 rfl w1.heap.size 3 (.int .i64 0) 1 8 Try.underlying22 info_int rfl (by decide) u3 T.length (ivs T) rfl HO3.out ai _ ci _ rfl HSRC.out HB1.out HB2.out HK3.out.size ?_
                       intro v6 w6 o6 g6 n6; have O6 := Lib.hid o6; have G6 := Lib.hid g6; clear o6 g6 n6)
          refine ⟨⟨rfl, rfl, rfl, rfl, i + 1, HI.out, by simp, HK3.out.grown G6.out (fun k hk => .inr (HO3.out.lt k hk).1), v6, rfl, ?_⟩, ?_⟩
          · rw [HTF.out, List.length_append, show ivs (T ++ R) = ivs T ++ ivs R by simp [ivs]]
            exact O6.out
          · have := HI.out
            simp [intOf]
            omega
        · have hd3 : decide (i < L.length) = false := decide_eq_false hlt
          have hiL : i = L.length := by omega
          subst hiL
          rw [List.take_length] at HO3
          clear hlt hi hk3 ho3
          go_wp2
          go_ret
          exact ⟨_, rfl, HO3.out, HK3.out⟩

theorem made_int (n : Nat) : madeCells #[Value.int .i64 0] n = (ivs (List.replicate n 0)).toArray := by
  apply Array.ext
  · simp [size_madeCells, ivs]
  · intro i h1 h2
    simp [madeCells, ivs, Nat.mod_one]

theorem make_int (n : Nat) (h : n ≤ 1099511627776) (w : World) : (Instr.makeSlice 22 (.int .i64 (n : Int)) (.int .i64 (n : Int))).run Try.prog w = .ok (.slice (some ⟨w.heap.size, 0, none⟩) n n) (w.alloc (.cells (ivs (List.replicate n 0)).toArray 3)) := by
  rw [← made_int]
  exact run_make_row' (P := Try.prog) 22 3 (.int .i64 0) 8 Try.underlying22 info_int rfl .i64 .i64 n (by omega) (by omega) w

end Go.Proofs.Ytkpmofomlplihaa
