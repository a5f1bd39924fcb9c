/- The walk of the statement BitsPut. -/
import Derived.Test.YtnchbclfjaghnaaRef
import Derived.Test.YtnchbclfjaghnaaLBack
import Derived.Deep.RegionHeld3
namespace Go.Proofs.Ytnchbclfjaghnaa
open Go.RowKit Bx

/-- The append onto a slice of the call's own, as one step of a region that draws its order. -/
theorem step_app {P : Program} (w : World) {ops : Array Oper} {o : Oper} {a : Act} {K : Act → World → Prop} {Q : Exit → Act → World → Prop} {E : Prop} (hgd : o.guard = none) (s x : Operand) (t : TypeId)
    (ho : o.op = .call { callee := .builtin .append, args := #[s, x], argTypes := #[t, t] })
    (base : Nat) (e : TypeId) (z : Value) (size bytes : Nat) (ht : P.underlying t = some (.slice e)) (hinf : (P.info? e).map (fun i => (i.zero, i.size, i.bytes)) = some (some z, size, bytes))
    (hzs : z.cells.size = size) (hsz : 0 < size)
    (v : Value) (n : Nat) (xs : List Value) (hs : a.eval s = v) (hown : w.ownsRow base e size v n xs)
    (ao : Option Addr) (m c : Nat) (news : List Value) (hx : a.eval x = .slice ao m c) (hsrc : SrcIs w size ao m c news)
    (h63 : n + m ≤ maxLen) (hbytes : (n + m) * bytes ≤ 140737488355328) (hbase : base ≤ w.heap.size)
    (h : ∀ v' w', w'.ownsRow base e size v' (n + m) (xs ++ news) → w.grownBy w' v.ownBlock → (v'.ownBlock = v.ownBlock ∨ v'.ownBlock = some w.heap.size) → K (a.put o.dst v') w') :
    if Region.wanted o (yielded ops a.tmps) = true then Oper.wp P o a w K Q else E := by
  have hw : Region.wanted o (yielded ops a.tmps) = true := by simp [Region.wanted, hgd]
  rw [if_pos hw]
  obtain ⟨v', w', hr, h2, h3, h4⟩ := run_app (P := P) w base t o.type e z size bytes ht hinf hzs hsz v n xs hown ao m c news hsrc h63 hbytes hbase
  unfold Oper.wp execOp
  simp only [ho, resolve, invoke, builtin, Sem.run_bind, Sem.run_pure, Result.andThen_ok, List.map_toArray, List.map_cons, List.map_nil, hs, hx, hr]
  exact h v' w' h2 h3 h4

theorem Sl.cellInt {w : World} {k : IntKind} {zs : List Int} {b off len cap : Nat} (h : Sl w (.slice (some ⟨b, off, none⟩) len cap) (zs.map (Value.int k))) {i : Nat} (hi : i < zs.length) : w.cell? ⟨b, off + i, none⟩ = some (.int k (zs.getD i 0)) := by
  obtain ⟨ao, c, e, _, _, hp⟩ := h.ints
  simp only [Value.slice.injEq] at e
  obtain ⟨rfl, rfl, rfl⟩ := e
  obtain ⟨b', off', e, _, hh⟩ := hp (by omega)
  simp only [Option.some.injEq, Addr.mk.injEq, and_true] at e
  obtain ⟨rfl, rfl⟩ := e
  exact hh i hi
theorem Sl.cellBool {w : World} {bs : List Bool} {b off len cap : Nat} (h : Sl w (.slice (some ⟨b, off, none⟩) len cap) (bs.map Value.bool)) {i : Nat} (hi : i < bs.length) : w.cell? ⟨b, off + i, none⟩ = some (.bool (bs.getD i false)) := by
  obtain ⟨ao, c, e, _, _, hp⟩ := h.bools
  simp only [Value.slice.injEq] at e
  obtain ⟨rfl, rfl, rfl⟩ := e
  obtain ⟨b', off', e, _, hh⟩ := hp (by omega)
  simp only [Option.some.injEq, Addr.mk.injEq, and_true] at e
  obtain ⟨rfl, rfl⟩ := e
  exact hh i hi
/-- Where a slice that isn't empty lies. -/
theorem Sl.where {w : World} {ao : Option Addr} {len cap : Nat} {xs : List Value} (h : Sl w (.slice ao len cap) xs) (h0 : 0 < len) : ∃ b off, ao = some ⟨b, off, none⟩ := by
  obtain ⟨ao', c, e, _, _, _, hp⟩ := h
  simp only [Value.slice.injEq] at e
  obtain ⟨rfl, rfl, rfl⟩ := e
  obtain ⟨b, off, e, _⟩ := hp h0
  exact ⟨b, off, e⟩

/-- A row of the call's own has grown: nothing that was there before the call has turned. -/
theorem put_row {w w4 w5 w6 : World} {e : TypeId} {v : Value} {n : Nat} {xs : List Value} (k4 : Kept Nix w w4) (k5 : Kept Nix w4.drew w5) (o4 : w4.ownsRow w.heap.size e 1 v n xs) (g6 : w5.grownBy w6 v.ownBlock) : Kept Nix w w6 :=
  (nix_trans k4.drew k5).grown g6 (fun k hk => .inr (o4.lt k hk).1)

theorem Kept.undrew {S : Nat → Prop} {w w' : World} (h : Kept S w.drew w') : Kept S w w' := ⟨h.os, h.tape, h.output, h.size, h.block⟩
theorem bls_append (l m : List Bool) : bls (l ++ m) = bls l ++ bls m := by simp [bls]

/-- The writer and the bits that are wanted of it. -/
def Both (w : World) (p : Nat) (n : Nat) (vw : Value) (w' : World) : Prop :=
  Kept Nix w w' ∧ ∃ v bits, bits.length ≤ n ∧ Wr w.heap.size w' p v (num bits) bits.length (pad bits.length) ∧ w'.ownsRow w.heap.size 4 1 vw bits.length (bls bits) ∧ Disj (Own vw) (Only p v)

def BPInv (w : World) (vl vw vf : Value) (n p : Nat) (a : Act) (w' : World) : Prop :=
  a.defers = [] ∧ a.tmps.size = 86 ∧ a.tmps[0]? = some vl ∧ a.tmps[1]? = some vw ∧ a.tmps[2]? = some vf ∧ a.tmps[7]? = some (.bool true) ∧ a.tmps[8]? = some (.pointer (some ⟨p, 0, none⟩)) ∧
  ∃ i vb, i ≤ n ∧ a.tmps[10]? = some (.int .i64 ((i : Nat) : Int)) ∧ a.tmps[9]? = some vb ∧ Both w p (72 * i) vb w'

def BPMid (w : World) (vl vw vf : Value) (p i : Nat) (a : Act) (w' : World) : Prop :=
  a.defers = [] ∧ a.tmps.size = 86 ∧ a.tmps[0]? = some vl ∧ a.tmps[1]? = some vw ∧ a.tmps[2]? = some vf ∧ a.tmps[7]? = some (.bool true) ∧ a.tmps[8]? = some (.pointer (some ⟨p, 0, none⟩)) ∧
  a.tmps[10]? = some (.int .i64 ((i : Nat) : Int)) ∧ ∃ vb, a.tmps[9]? = some vb ∧ Both w p (72 * i + 72) vb w'

def BPFill (w : World) (vl vw vf : Value) (p i : Nat) (v : Value) (bits : List Bool) (a : Act) (w' : World) : Prop :=
  a.defers = [] ∧ a.tmps.size = 86 ∧ a.tmps[0]? = some vl ∧ a.tmps[1]? = some vw ∧ a.tmps[2]? = some vf ∧ a.tmps[7]? = some (.bool true) ∧ a.tmps[8]? = some (.pointer (some ⟨p, 0, none⟩)) ∧
  a.tmps[10]? = some (.int .i64 ((i : Nat) : Int)) ∧ Kept Nix w w' ∧ Wr w.heap.size w' p v (num bits * 2 ^ pad bits.length) (bits.length + pad bits.length) (pad (bits.length + pad bits.length)) ∧
  ∃ j vb, j ≤ pad bits.length ∧ a.tmps[9]? = some vb ∧ w'.ownsRow w.heap.size 4 1 vb (bits.length + j) (bls (bits ++ List.replicate j false)) ∧ Disj (Own vb) (Only p v)

set_option maxRecDepth 100000 in
set_option maxHeartbeats 2000000 in
theorem walk_BitsPut (w : World) (vl : Value) (zl : List Int) (sl : Sl w vl (zl.map (Value.int .u64))) (hzl : ∀ n ∈ zl, (Lit.int .u64 n).wf = true) (vw : Value) (zw : List Int) (sw : Sl w vw (zw.map (Value.int .i64))) (_hw : ∀ n ∈ zw, (Lit.int .i64 n).wf = true)
    (vf : Value) (zf : List Bool) (sf : Sl w vf (zf.map Value.bool)) :
    Calls Try.prog 3 #[vl, vw, vf] w fun e w' => e = .returned (.bool true) ∧ Kept Nix w w' := by
  have HA := Lib.hid (awake_any w)
  obtain ⟨al, cl, hvl, hcl, hml, hpl⟩ := sl.ints
  obtain ⟨aw, cw, hvw, hcw, hmw, hpw⟩ := sw.ints
  obtain ⟨af, cf, hvf, hcf, hmf, hpf⟩ := sf.bools
  clear hpl hpw hpf
  by_cases hl : zl.length ≤ 60 ∧ zl.length ≤ zw.length
  · obtain ⟨hl1, hl2⟩ := hl
    have f1 : decide ((60 : Int) < (zl.length : Int)) = false := by simp; omega
    have f2 : decide (zw.length < zl.length) = false := by simp; omega
    have f3 : ¬ 60 < zl.length := by omega
    have f4 : ¬ zw.length < zl.length := by omega
    subst hvl
    subst hvw
    subst hvf
    have HSL := Lib.hid sl
    have HSW := Lib.hid sw
    have HSF := Lib.hid sf
    have HZL := Lib.hid hzl
    clear sl sw sf hzl
    go_enter Try.func3, Try.ntmps3
    go_wp2_with fail
    refine HA.out.mono ?_
    rintro e w1 ⟨rfl, k1⟩
    have s1 := k1.size
    have HN := Lib.hid (new_any w.heap.size w1 s1)
    go_wp2_with fail
    refine HN.out.mono ?_
    rintro e w2 ⟨p, rfl, hp, r1, k2⟩
    have k2 := nix_trans k1 k2
    have R1 := Lib.hid r1
    clear HA HN k1 r1
    go_wp2_with fail
    refine wp_loop (BPInv w (.slice al zl.length cl) (.slice aw zw.length cw) (.slice af zf.length cf) zl.length p) (fun a _ => zl.length - (intOf (a.tmps.getD 10 undef)).toNat) ?_ ?_
    · exact ⟨rfl, rfl, rfl, rfl, rfl, rfl, rfl, 0, _, Nat.zero_le _, rfl, rfl, k2, _, [], Nat.zero_le _, R1.out, World.ownsRow_nil _ _ _ _, fun k hk => by simp [Own, Value.ownBlock] at hk⟩
    · rintro ⟨tm, df⟩ w3 ⟨rfl, hs, h0, h1, h2, h7, h8, i, vb, hi, h10, h9, k3, v3, bits, hbl, r3, o3, d3⟩
      simp only at hs h0 h1 h2 h7 h8 h9 h10
      obtain ⟨f, hf, hg⟩ := fr_open hs
      have e0 := hg _ _ h0
      have e1 := hg _ _ h1
      have e2 := hg _ _ h2
      have e7 := hg _ _ h7
      have e8 := hg _ _ h8
      have e9 := hg _ _ h9
      have e10 := hg _ _ h10
      simp only [List.range, List.range.loop, List.map] at hf
      rw [e0, e1, e2, e7, e8, e9, e10] at hf
      clear e0 e1 e2 e7 e8 e9 e10 hg hs h0 h1 h2 h7 h8 h9 h10
      subst hf
      clear R1 k2
      have s3 := k3.size
      by_cases hlt : i < zl.length
      · obtain ⟨bw, ow, rfl⟩ := HSW.out.where (by omega)
        obtain ⟨bl, ol, rfl⟩ := HSL.out.where (by omega)
        have hd1 := (HSW.out.nix k3).cellInt (i := i) (by omega)
        have hd2 := (HSL.out.nix k3).cellInt (i := i) (by omega)
        have hi1 : (i : Int) < (zl.length : Int) := by omega
        have hi2 : (i : Int) < (zw.length : Int) := by omega
        have hx := bounds_u64 (HZL.out _ (List.getElem_mem hlt))
        rw [show zl[i] = zl.getD i 0 by simp [hlt]] at hx
        obtain ⟨wd, hwd⟩ : ∃ wd, zw.getD i 0 = wd := ⟨_, rfl⟩
        obtain ⟨n, hn⟩ := Int.eq_ofNat_of_zero_le hx.1
        have hn64 : n < 18446744073709551616 := by omega
        rw [hn] at hd2
        rw [hwd] at hd1
        have HWD := Lib.hid hwd
        have HNN := Lib.hid hn
        clear hx hn hwd
        have hput := put_any w.heap.size p v3 _ _ n wd w3.drew r3 (by omega) s3
        have hwl := wid_le wd
        have hdl := dg_length (wid wd) n
        rw [show num bits * 2 ^ wid wd + n % 2 ^ wid wd = num (bits ++ dg (wid wd) n) by rw [num_append, num_dg, hdl], show bits.length + wid wd = (bits ++ dg (wid wd) n).length by rw [List.length_append, hdl]] at hput
        have HP := Lib.hid hput
        clear hput
        go_wp2_with fail
        go_still_tail 9, (by kernel_rfl)
        change wpList _ _ _ _ _ w3.drew
        go_wp2_with fail
        refine HP.out.mono ?_
        rintro e w4 ⟨rfl, v4, r4, k4, g4⟩
        have s4 := k4.size
        obtain ⟨o4, d4⟩ := owns_beside (w := w3.drew) o3 k4 d3 g4
        have k4 := nix_put k3.drew k4 (fun j hj => (r3.foot j hj).1)
        have hd1 := (HSW.out.nix k4).cellInt (i := i) (by omega)
        have hd2 := (HSL.out.nix k4).cellInt (i := i) (by omega)
        rw [HNN.out] at hd2
        rw [HWD.out] at hd1
        clear HP k3 r3 o3 d3 g4
        have hb4 : w.heap.size ≤ w4.heap.size := k4.size
        have HD := Lib.hid (digits_any w.heap.size n wd w4.drew hn64 hb4)
        have hlb : (bits ++ dg (wid wd) n).length ≤ 72 * i + 64 := by rw [List.length_append, hdl]; omega
        have hb1 : bits.length + (bls (dg (wid wd) n)).length ≤ maxLen := by rw [bls_length, hdl]; simp only [maxLen]; omega
        have hb2 : (bits.length + (bls (dg (wid wd) n)).length) * 1 ≤ 140737488355328 := by rw [bls_length, hdl]; omega
        have O4 := Lib.hid o4
        have D4 := Lib.hid d4
        have K4 := Lib.hid k4
        have R4 := Lib.hid r4
        clear o4 d4 k4 r4
        go_wp2_with fail
        go_region_held3 (fun w' => w'.cell? ⟨bw, ow + i, none⟩ = some (.int .i64 wd) ∧ w'.cell? ⟨bl, ol + i, none⟩ = some (.int .u64 (n : Int)))
          (first | go_keep | (exact HQ5.out) | (exact HQ6.out))
          (first
            | (go_at_call 12; refine HD.out.mono ?_; rintro e w5 ⟨v5, rfl, o5, k5, g5⟩; obtain ⟨ao5, cap5, rfl, hsrc5⟩ := src_of_sl (sl_of_owns o5) (bls_one _); have HQ5 := Lib.hid (And.intro ((HSW.out.nix (nix_trans K4.out.drew k5)).cellInt (i := i) (by omega)) ((HSL.out.nix (nix_trans K4.out.drew k5)).cellInt (i := i) (by omega))); rw [HWD.out, HNN.out] at HQ5; have K5 := Lib.hid k5; have S5 := Lib.hid hsrc5; have O5 := Lib.hid o5; have G5 := Lib.hid g5; clear k5 hsrc5 o5 g5)
            | (refine step_app w5 rfl (.tmp 42) (.tmp 51) 24 rfl w.heap.size 4 (.bool false) 1 1 Try.underlying24 info_bool rfl (by decide) vb bits.length (bls bits) rfl (K5.out.owns (w := w4.drew) O4.out (fun _ _ h => h)) ao5 _ cap5 _ rfl S5.out hb1 hb2 (Nat.le_trans hb4 K5.out.size) ?_; intro v6 w6 o6 g6 n6; have k6 := put_row K4.out K5.out O4.out g6; have HQ6 := Lib.hid (And.intro ((HSW.out.nix k6).cellInt (i := i) (by omega)) ((HSL.out.nix k6).cellInt (i := i) (by omega))); rw [HWD.out, HNN.out] at HQ6; have K6 := Lib.hid k6; have O6 := Lib.hid o6; have G6 := Lib.hid g6; have N6 := Lib.hid n6; clear k6 o6 g6 n6))
        obtain ⟨bits', hbits'⟩ : ∃ bits', bits ++ dg (wid wd) n = bits' := ⟨_, rfl⟩
        have both6 : Both w p (72 * i + 64) v6 w6 := by
          have hlb' := hlb
          have r4 := R4.out
          have o6 := O6.out
          rw [← bls_append, hbits', bls_length, ← List.length_append, hbits'] at o6
          rw [hbits'] at r4 hlb'
          have k46 : Kept (Own vb) w4 w6 := (K5.out.undrew.mono (fun _ h => absurd h id)).grown G6.out (fun k hk => .inl hk)
          refine ⟨K6.out, v4, bits', hlb', r4.apart k46 D4.out.symm, o6, ?_⟩
          intro k h1 h2
          rcases N6.out with h | h
          · exact D4.out k (by unfold Own at h1 ⊢; rw [← h]; exact h1) h2
          · unfold Own at h1
            rw [h] at h1
            simp only [Option.some.injEq] at h1
            have h3 := (r4.foot k h2).2
            have h4 : w4.heap.size ≤ w5.heap.size := K5.out.size
            omega
        obtain ⟨ao6, cap6, hv6, hcap6, hmax6⟩ := owns_shape O6.out
        have B6 := Lib.hid both6
        have K6' := Lib.hid K6.out
        clear both6 hbits' HQ6 HQ5 O6 G6 N6 O4 D4 R4 K4 K5 S5 O5 G5 K6 HD hd1 hd2 hb1 hb2
        have hsl6 : ao6 = ao6 := rfl
        clear hsl6
        subst hv6
        obtain ⟨fb, hfb⟩ : ∃ fb, (decide (i < zf.length) && zf.getD i false) = fb := ⟨_, rfl⟩
        have HFB := Lib.hid hfb
        clear hfb
        generalize hV6 : Value.slice ao6 (bits.length + (bls (dg (wid wd) n)).length) cap6 = V6
        have hV6s : ∃ ao m c, V6 = .slice ao m c := ⟨_, _, _, hV6.symm⟩
        rw [hV6] at B6
        clear hV6 hcap6 hmax6
        go_upto_region 13 with fail
        refine wp_cut (fun a' w' => w' = w6 ∧ a'.defers = [] ∧ a'.tmps.size = 86 ∧ a'.tmps[0]? = some (.slice (some ⟨bl, ol, none⟩) zl.length cl) ∧ a'.tmps[1]? = some (.slice (some ⟨bw, ow, none⟩) zw.length cw) ∧ a'.tmps[2]? = some (.slice af zf.length cf) ∧ a'.tmps[7]? = some (.bool true) ∧ a'.tmps[8]? = some (.pointer (some ⟨p, 0, none⟩)) ∧
            a'.tmps[10]? = some (.int .i64 ((i : Nat) : Int)) ∧ a'.tmps[9]? = some V6 ∧ a'.tmps[62]? = some (.bool fb)) ?_ ?_
        · rintro ⟨tm, df⟩ w7 ⟨rfl, rfl, hs, h0, h1, h2, h7, h8, h10, h9, h62⟩
          simp only at hs h0 h1 h2 h7 h8 h9 h10 h62
          obtain ⟨f4, hf, hg⟩ := fr_open hs
          have e0 := hg _ _ h0
          have e1 := hg _ _ h1
          have e2 := hg _ _ h2
          have e7 := hg _ _ h7
          have e8 := hg _ _ h8
          have e9 := hg _ _ h9
          have e10 := hg _ _ h10
          have e62 := hg _ _ h62
          simp only [List.range, List.range.loop, List.map] at hf
          rw [e0, e1, e2, e7, e8, e9, e10, e62] at hf
          clear e0 e1 e2 e7 e8 e9 e10 e62 hg hs h0 h1 h2 h7 h8 h9 h10 h62
          subst hf
          clear HFB K6'
          go_upto_if 62 with fail
          refine wp_cut (BPMid w (.slice (some ⟨bl, ol, none⟩) zl.length cl) (.slice (some ⟨bw, ow, none⟩) zw.length cw) (.slice af zf.length cf) p i) ?_ ?_
          · rintro ⟨tm, df⟩ w8 ⟨rfl, hs, h0, h1, h2, h7, h8, h10, vb8, h9, k8, v8, bits8, hbl8, r8, o8, d8⟩
            simp only at hs h0 h1 h2 h7 h8 h9 h10
            obtain ⟨f5, hf, hg⟩ := fr_open hs
            have e0 := hg _ _ h0
            have e1 := hg _ _ h1
            have e2 := hg _ _ h2
            have e7 := hg _ _ h7
            have e8 := hg _ _ h8
            have e9 := hg _ _ h9
            have e10 := hg _ _ h10
            simp only [List.range, List.range.loop, List.map] at hf
            rw [e0, e1, e2, e7, e8, e9, e10] at hf
            clear e0 e1 e2 e7 e8 e9 e10 hg hs h0 h1 h2 h7 h8 h9 h10 B6
            subst hf
            have s8 := k8.size
            have hp7 := pad_le bits8.length
            have HL := Lib.hid (len_any w.heap.size p v8 _ _ _ w8 r8)
            obtain ⟨B, hpk, hby⟩ := bytes_of_wr r8 (by omega) (by omega) s8
            have HBY := Lib.hid hby
            obtain ⟨ao8, cap8, hv8, hcap8, hmax8⟩ := owns_shape o8
            have g1 : ((bits8.length : Int) != (bits8.length : Int)) = false := by simp
            have HPK := Lib.hid hpk
            have O8 := Lib.hid o8
            have D8 := Lib.hid d8
            have R8 := Lib.hid r8
            have hBl : B.length < 1099511627776 := by have := hpk.2.1; omega
            subst hv8
            clear hpk hby o8 d8 r8
            go_wp2_with fail
            refine HL.out.mono ?_
            rintro e w' ⟨rfl, rfl⟩
            go_wp2_with fail
            refine HBY.out.mono ?_
            rintro e w9 ⟨v9, rfl, o9, k9, g9⟩
            have o89 := k9.owns O8.out (fun _ _ h => h)
            have HBS := Lib.hid (bys_any w.heap.size _ bits8 w9 (sl_of_owns o89) (by omega) (Nat.le_trans s8 k9.size))
            go_wp2_with fail
            refine HBS.out.mono ?_
            rintro e w10 ⟨v10, R, rfl, o10, hpkR, k10, g10⟩
            have hBR : B = R := pk_one HPK.out hpkR
            subst hBR
            have o910 := k10.owns o9 (fun _ _ h => h)
            have HS := Lib.hid (same_any v9 v10 B B w10 (sl_of_owns o910) (sl_of_owns o10) hBl)
            have k10' := nix_trans k9 k10
            have R10 := Lib.hid (R8.out.apart k10' (disj_nix _))
            have O10 := Lib.hid (k10'.owns O8.out (fun _ _ h => h))
            have K10 := Lib.hid (nix_trans k8 k10')
            clear k10' k9 k10 o9 o10 o910 o89 hpkR g9 g10 HBY HBS HL k8 R8 O8
            go_wp2_with fail
            refine HS.out.mono ?_
            rintro e w11 ⟨rfl, n11, rfl⟩
            go_wp2_with fail
            refine ⟨⟨rfl, rfl, rfl, rfl, rfl, rfl, rfl, i + 1, _, hlt, rfl, rfl, K10.out.drewN n11, v8, bits8, by omega, R10.out, O10.out, D8.out⟩, ?_⟩
            simp [intOf]
            omega
          · intro J K' hJ hK'
            cases fb with
            | false =>
              go_wp2
              refine hJ _ _ ⟨rfl, rfl, rfl, rfl, rfl, rfl, rfl, rfl, _, rfl, ?_⟩
              obtain ⟨k6, v, bits6, h1, h2⟩ := B6.out
              exact ⟨k6, v, bits6, by omega, h2⟩
            | true =>
              obtain ⟨k6, v, bits6, hb6, r6, o6, d6⟩ := B6.out
              have s6 := k6.size
              have HF := Lib.hid (wfill_any w.heap.size p v _ _ w7 r6 (by omega) s6)
              have O6 := Lib.hid o6
              have D6 := Lib.hid d6
              have R6 := Lib.hid r6
              clear o6 d6 r6 B6
              go_wp2_with fail
              refine HF.out.mono ?_
              rintro e w8 ⟨rfl, v8, r8, k8, g8⟩
              obtain ⟨o8, d8⟩ := owns_beside O6.out k8 D6.out g8
              have k8 := nix_own k6 k8 (fun k hk => (R6.out.foot k hk).1) (Nat.le_refl _)
              have O8 := Lib.hid o8
              have D8 := Lib.hid d8
              have R8 := Lib.hid r8
              clear HF O6 D6 R6 k6 g8 o8 d8 r8
              go_wp2_with fail
              refine wp_loop (BPFill w (.slice (some ⟨bl, ol, none⟩) zl.length cl) (.slice (some ⟨bw, ow, none⟩) zw.length cw) (.slice af zf.length cf) p i v8 bits6) (fun a _ => bits6.length + 8 - slen (a.tmps.getD 9 undef)) ?_ ?_
              · exact ⟨rfl, rfl, rfl, rfl, rfl, rfl, rfl, rfl, k8, R8.out, 0, _, Nat.zero_le _, rfl, by simpa using O8.out, D8.out⟩
              · rintro ⟨tm, df⟩ w9 ⟨rfl, hs, h0, h1, h2, h7, h8, h10, k9, r9, j, vb9, hj, h9, o9, d9⟩
                simp only at hs h0 h1 h2 h7 h8 h9 h10
                obtain ⟨f5, hf, hg⟩ := fr_open hs
                have e0 := hg _ _ h0
                have e1 := hg _ _ h1
                have e2 := hg _ _ h2
                have e7 := hg _ _ h7
                have e8 := hg _ _ h8
                have e9 := hg _ _ h9
                have e10 := hg _ _ h10
                simp only [List.range, List.range.loop, List.map] at hf
                rw [e0, e1, e2, e7, e8, e9, e10] at hf
                clear e0 e1 e2 e7 e8 e9 e10 hg hs h0 h1 h2 h7 h8 h9 h10 O8 D8 R8
                subst hf
                have s9 := k9.size
                obtain ⟨ao9, cap9, hv9, hcap9, hmax9⟩ := owns_shape o9
                have hpd := pad_le bits6.length
                by_cases hjp : j = pad bits6.length
                · subst hjp
                  have g1 : ((((bits6.length + pad bits6.length : Nat)) : Int) % 8 != 0) = false := by have := pad_mod bits6.length; simp; omega
                  have g2 : (((bits6.length : Int) + (pad bits6.length : Int)) % 8 != 0) = false := by have := pad_mod bits6.length; simp; omega
                  have fin : Both w p (72 * i + 72) vb9 w9 := by
                    refine ⟨k9, v8, bits6 ++ List.replicate (pad bits6.length) false, by simp; omega, ?_, ?_, d9⟩
                    · rw [num_append, num_zeros, List.length_append, List.length_replicate, Nat.add_zero]
                      exact r9
                    · simpa using o9
                  have FIN := Lib.hid fin
                  subst hv9
                  clear fin o9 d9 r9
                  go_wp2
                  refine hJ _ _ ⟨rfl, rfl, rfl, rfl, rfl, rfl, rfl, rfl, _, rfl, FIN.out⟩
                · have g1 : ((((bits6.length + j : Nat)) : Int) % 8 != 0) = true := by simp; unfold pad at hj hjp; omega
                  have g2 : (((bits6.length : Int) + (j : Int)) % 8 != 0) = true := by simp; unfold pad at hj hjp; omega
                  have HO := Lib.hid o9
                  have HD := Lib.hid d9
                  have HR := Lib.hid r9
                  subst hv9
                  clear o9 d9 r9
                  go_wp2_with (at_builtin; refine wpList_app _ rfl (.tmp 69) (.tmp 70) 24 rfl w.heap.size 4 (.bool false) 1 1 Try.underlying24 info_bool rfl (by decide) _ (bits6.length + j) _ rfl (HO.out.alloc _) _ 1 1 [.bool false] rfl (src_one _ _ _ rfl) ?_ ?_ ?_ ?_)
                  · simp only [maxLen]; omega
                  · omega
                  · simp; omega
                  · intro v10 w10 o10 g10 n10
                    have kk : Kept (Own (.slice ao9 (bits6.length + j) cap9)) w9 w10 := ((Kept.refl _ w9).alloc (.cells #[.bool false] 4)).grown g10 (fun k hk => .inl hk)
                    have k10 := k9.trans kk (T := Nix) (fun _ h => h) (fun k hk e => by have := (HO.out.lt k e).1; omega)
                    have r10 := HR.out.apart kk HD.out.symm
                    have d10 : Disj (Own v10) (Only p v8) := by
                      intro k h1 h2
                      rcases n10 with h | h
                      · exact HD.out k (by unfold Own at h1 ⊢; rw [← h]; exact h1) h2
                      · unfold Own at h1
                        rw [h] at h1
                        simp only [Option.some.injEq] at h1
                        have h3 := (HR.out.foot k h2).2
                        omega
                    obtain ⟨ao10, cap10, hv10, hcap10, hmax10⟩ := owns_shape o10
                    have O10 := Lib.hid o10
                    have FIN := Lib.hid (And.intro k10 (And.intro r10 d10))
                    subst hv10
                    clear o10 g10 n10 kk k10 r10 d10
                    go_wp2
                    refine ⟨⟨rfl, rfl, rfl, rfl, rfl, rfl, rfl, rfl, FIN.out.1, FIN.out.2.1, j + 1, _, by omega, rfl, ?_, FIN.out.2.2⟩, ?_⟩
                    · rw [← Nat.add_assoc]
                      simpa [bls, List.replicate_succ'] using O10.out
                    · simp [slen]
                      omega
        · intro J K' hJ hK'
          have hfb := HFB.out
          by_cases hf1 : i < zf.length
          · obtain ⟨bf, off, rfl⟩ := HSF.out.where (by omega)
            have hd3 := (HSF.out.nix K6'.out).cellBool (i := i) hf1
            have hi3 : (i : Int) < (zf.length : Int) := by omega
            have e1 : zf.getD i false = fb := by rw [← hfb]; simp [hf1]
            rw [e1] at hd3
            clear e1 hfb
            go_wp2
            refine hJ _ _ ⟨rfl, rfl, rfl, rfl, rfl, rfl, rfl, rfl, rfl, rfl, rfl⟩
          · have e1 : fb = false := by rw [← hfb]; simp [hf1]
            have hi3 : ¬ i < zf.length := hf1
            have hi4 : decide (i < zf.length) = false := by simp [hf1]
            subst e1
            clear hfb
            go_wp2
            refine hJ _ _ ⟨rfl, rfl, rfl, rfl, rfl, rfl, rfl, rfl, rfl, rfl, rfl⟩
      · have hit : ¬ i < zl.length := hlt
        clear r3 o3 d3
        go_wp2
        go_ret
        exact ⟨rfl, k3⟩
  · subst hvl
    subst hvw
    subst hvf
    clear sl sw sf
    by_cases hl1 : 60 < zl.length
    · have f1 : decide ((60 : Int) < (zl.length : Int)) = true := by simp; omega
      clear hl
      go_enter Try.func3, Try.ntmps3
      go_wp2_with fail
      refine HA.out.mono ?_
      rintro e w1 ⟨rfl, k1⟩
      go_wp2_with fail
      go_ret
      exact ⟨rfl, k1⟩
    · have f1 : decide ((60 : Int) < (zl.length : Int)) = false := by simp; omega
      have f2 : decide (zw.length < zl.length) = true := by simp; omega
      have f4 : zw.length < zl.length := by omega
      clear hl
      go_enter Try.func3, Try.ntmps3
      go_wp2_with fail
      refine HA.out.mono ?_
      rintro e w1 ⟨rfl, k1⟩
      go_wp2_with fail
      go_ret
      exact ⟨rfl, k1⟩
end Go.Proofs.Ytnchbclfjaghnaa
