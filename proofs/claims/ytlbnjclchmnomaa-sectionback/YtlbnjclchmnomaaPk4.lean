/- A writer of bits in memory: its struct, its bytes; what one step of a put does to it. The contract of (*bits.Writer).Put: behind all bits the lowest bits of the number, as many as the width is held. -/
import Derived.Test.YtlbnjclchmnomaaPk1
import Derived.Test.YtlbnjclchmnomaaPk3
import Derived.WalkMore
import Derived.ScopeJumps
import Derived.StillTailTactics
import Derived.Deep.QuietTactic
import Derived.Outline
import Derived.Deep.Cut

namespace Go.Proofs.Ytlbnjclchmnomaa
open Go.RowKit Bx

/-- At block p lies a writer whose slice is v: c bits, the number N, and r bits 0 behind them. -/
def Wr (base : Nat) (w : World) (p : Nat) (v : Value) (N c r : Nat) : Prop :=
  base ≤ p ∧ w.heap[p]? = some (.cells #[v, .int .i64 c] 58 (0, 0)) ∧ v.ownBlock ≠ some p ∧
  ∃ B : List Nat, w.ownsRow base 5 1 v B.length (u8s B) ∧ Pk B N c r

theorem Wr.lt {base : Nat} {w : World} {p : Nat} {v : Value} {N c r : Nat} (h : Wr base w p v N c r) : p < w.heap.size := lt_of_heap h.2.1

theorem Wr.own {base : Nat} {w : World} {p : Nat} {v : Value} {N c r : Nat} (h : Wr base w p v N c r) {k : Nat} (hk : v.ownBlock = some k) : base ≤ k ∧ k < w.heap.size := by
  obtain ⟨_, _, _, B, ho, _⟩ := h
  exact ho.lt k hk

theorem Wr.kept {base : Nat} {w w' : World} {p : Nat} {v : Value} {N c r : Nat} {S : Nat → Prop} (h : Wr base w p v N c r) (hk : Kept S w w') (h1 : ¬ S p) (h2 : ∀ k, v.ownBlock = some k → ¬ S k) : Wr base w' p v N c r := by
  obtain ⟨hb, hp, hne, B, ho, hpk⟩ := h
  exact ⟨hb, hk.heap hp h1, hne, B, hk.owns ho h2, hpk⟩

theorem Wr.small {base : Nat} {w : World} {p : Nat} {v : Value} {N c r : Nat} (h : Wr base w p v N c r) : N < 2 ^ c := by
  obtain ⟨_, _, _, B, _, hpk⟩ := h
  exact hpk.2.2.2

/-- There is room in the last byte: it is there, and what a piece more makes of the world. -/
theorem Wr.step {base : Nat} {w : World} {p : Nat} {v : Value} {N c r : Nat} (h : Wr base w p v N c r) (hr : 0 < r) (hr8 : r ≤ 8) :
    ∃ g L cap x, v = .slice (some ⟨g, 0, none⟩) (L + 1) cap ∧ L + 1 ≤ cap ∧ cap ≤ maxLen ∧ 8 * (L + 1) = c + r ∧ g ≠ p ∧ w.cell? ⟨g, L, none⟩ = some (.int .u8 ((x : Nat) : Int)) ∧ w.frozen? ⟨g, L, none⟩ = false ∧ x < 256 ∧ x % 2 ^ r = 0 ∧
      ∀ s y, s ≤ r → y < 2 ^ s → Wr base ((w.setCell ⟨g, L, none⟩ (.int .u8 ((x + y * 2 ^ (r - s) : Nat) : Int))).setCell ⟨p, 1, none⟩ (.int .i64 ((c + s : Nat) : Int))) p v (N * 2 ^ s + y) (c + s) (r - s) := by
  obtain ⟨hb, hp, hne, B, ho, hpk⟩ := h
  have hlen := hpk.2.1
  obtain ⟨i, x, rfl⟩ := snoc_of_pos B (by omega)
  have hx := hpk.1 x (by simp)
  obtain ⟨g, cap, rfl, h1, h2, hbg, hgl⟩ := owns_pos ho (by simp)
  have hgp : g ≠ p := fun e => hne (by simp [Value.ownBlock, e])
  simp only [List.length_append, List.length_cons, List.length_nil, Nat.zero_add] at ho hlen h1 ⊢
  have hc := ho.cellAt i.length (by omega)
  rw [u8s_get _ _ (by simp)] at hc
  have e0 : (i ++ [x]).getD i.length 0 = x := by simp [List.getD]
  rw [e0] at hc
  refine ⟨g, i.length, cap, x, rfl, h1, h2, hlen, hgp, hc, ho.frozenAt i.length, hx, (pk_step (y := 0) hpk hr8 (Nat.zero_le r) (by simp)).1, ?_⟩
  intro s y hs hy
  obtain ⟨_, _, hpk'⟩ := pk_step hpk hr8 hs hy
  have ho1 := (ho.stored i.length (.int .u8 ((x + y * 2 ^ (r - s) : Nat) : Int))).1
  have hp1 : (w.setCell ⟨g, i.length, none⟩ (.int .u8 ((x + y * 2 ^ (r - s) : Nat) : Int))).heap[p]? = some (.cells #[.slice (some ⟨g, 0, none⟩) (i.length + 1) cap, .int .i64 c] 58 (0, 0)) := by
    rw [heap_set_other (by simpa using Ne.symm hgp)]
    simpa using hp
  have e1 : (u8s (i ++ [x])).set i.length (.int .u8 ((x + y * 2 ^ (r - s) : Nat) : Int)) = u8s (i ++ [x + y * 2 ^ (r - s)]) := by
    simp [u8s]
  rw [e1] at ho1
  refine ⟨hb, ?_, hne, i ++ [x + y * 2 ^ (r - s)], ?_, hpk'⟩
  · rw [heap_set hp1]; simp
  · have hk := Kept.setCell (S := fun k => k = p) (p := ⟨p, 1, none⟩) (Kept.refl _ (w.setCell ⟨g, i.length, none⟩ (.int .u8 ((x + y * 2 ^ (r - s) : Nat) : Int)))) (.inl rfl) (.int .i64 ((c + s : Nat) : Int))
    simpa using hk.owns ho1 (fun k hk e => hgp (by simp [Value.ownBlock] at hk; omega))

/-- A byte 0 has been laid behind: the world in which the slice was grown, and the struct told so. -/
theorem Wr.room {base : Nat} {w w1 : World} {p : Nat} {v v1 : Value} {N c : Nat} {B : List Nat} (hb : base ≤ p) (hp : w.heap[p]? = some (.cells #[v, .int .i64 c] 58 (0, 0))) (hne : v.ownBlock ≠ some p)
    (hpk : Pk B N c 0) (hg : w.grownBy w1 v.ownBlock) (ho : w1.ownsRow base 5 1 v1 (B.length + 1) (u8s B ++ [.int .u8 0])) (hv : v1.ownBlock = v.ownBlock ∨ ∀ k, v1.ownBlock = some k → p < k) :
    Wr base (w1.setCell ⟨p, 0, none⟩ v1) p v1 N c 8 := by
  have hne1 : v1.ownBlock ≠ some p := by
    rcases hv with hv | hv
    · rw [hv]; exact hne
    · intro e; have := hv p e; omega
  have hp1 : w1.heap[p]? = some (.cells #[v, .int .i64 c] 58 (0, 0)) := (hg.block p (lt_of_heap hp) (fun e => hne e.symm)).trans hp
  refine ⟨hb, ?_, hne1, B ++ [0], ?_, pk_room hpk⟩
  · rw [heap_set hp1]; simp
  · have hk := Kept.setCell (S := fun k => k = p) (p := ⟨p, 0, none⟩) (Kept.refl _ w1) (.inl rfl) v1
    have := hk.owns ho (fun k hk e => hne1 (by rw [hk, e]))
    simpa [u8s] using this

end Go.Proofs.Ytlbnjclchmnomaa

namespace Go.Proofs.Ytlbnjclchmnomaa
open Go.RowKit Bx

/-- What a put leaves: the writer with k bits more; nothing else that was there has turned; where its bytes lie now. -/
def PutPost (base : Nat) (w : World) (p : Nat) (v : Value) (N c : Nat) (w' : World) : Prop :=
  ∃ v', Wr base w' p v' N c ((8 - c % 8) % 8) ∧ Kept (Only p v) w w' ∧ (v'.ownBlock = v.ownBlock ∨ ∃ k, v'.ownBlock = some k ∧ w.heap.size ≤ k)

/-- What holds at the label. -/
def PutInv (base : Nat) (w : World) (p : Nat) (v : Value) (N c k n : Nat) (a : Act) (w' : World) : Prop :=
  a.defers = [] ∧ a.tmps.size = 67 ∧ a.tmps[0]? = some (.pointer (some ⟨p, 0, none⟩)) ∧ a.tmps[1]? = some (.int .u64 (n : Int)) ∧
  ∃ left, left ≤ k ∧ a.tmps[6]? = some (.int .i64 ((left : Nat) : Int)) ∧ PutPost base w p v (N * 2 ^ (k - left) + n / 2 ^ left % 2 ^ (k - left)) (c + (k - left)) w'

def putMeasure (a : Act) : Nat := (intOf (a.tmps.getD 6 undef)).toNat

noncomputable def putRest : Code := behindLabel (Try.f45.body.getD .skip) 0

/-- Behind the byte that may have been laid: there is room. -/
def PutRoom (base : Nat) (w : World) (p : Nat) (v : Value) (N c n left : Nat) (a : Act) (w' : World) : Prop :=
  a.defers = [] ∧ a.tmps.size = 67 ∧ a.tmps[0]? = some (.pointer (some ⟨p, 0, none⟩)) ∧ a.tmps[1]? = some (.int .u64 (n : Int)) ∧ a.tmps[6]? = some (.int .i64 ((left : Nat) : Int)) ∧
  ∃ r v', a.tmps[7]? = some (.int .i64 ((r : Nat) : Int)) ∧ 1 ≤ r ∧ r ≤ 8 ∧ r % 8 = (8 - c % 8) % 8 ∧ Wr base w' p v' N c r ∧ Kept (Only p v) w w' ∧ (v'.ownBlock = v.ownBlock ∨ ∃ k, v'.ownBlock = some k ∧ w.heap.size ≤ k)

set_option maxRecDepth 10000 in
set_option maxHeartbeats 400000 in
theorem put_pass (base p : Nat) (v : Value) (N c n k : Nat) (w : World) (hk : k ≤ 64) (hc : c < 1099511627776) (hb : base ≤ w.heap.size)
    (R : Ending → World → Prop) (hR : ∀ w', PutPost base w p v (N * 2 ^ k + n % 2 ^ k) (c + k) w' → R (.returned (.tuple #[])) w')
    (a : Act) (w' : World) (hi : PutInv base w p v N c k n a w') :
    putRest.wp Try.prog (Exit.jump 0 (fun a' w'' => PutInv base w p v N c k n a' w'' ∧ putMeasure a' < putMeasure a) (bodyPost Try.prog Try.f45 R)) a w' := by
  obtain ⟨tm, df⟩ := a
  obtain ⟨rfl, hs, h0, h1, left, hle, h6, v', hw', hkp, hv'⟩ := hi
  simp only at hs h0 h1 h6
  obtain ⟨f, hf, hg⟩ := fr_open hs
  have e0 := hg _ _ h0
  have e1 := hg _ _ h1
  have e6 := hg _ _ h6
  simp only [List.range, List.range.loop, List.map] at hf
  rw [e0, e1, e6] at hf
  clear e0 e1 e6 hg hs h0 h1 h6
  subst hf
  conv => arg 2; whnf
  by_cases hl : left = 0
  · subst hl
    go_wp2
    simp only [Exit.jump]
    refine bodyPost_ret (v := .tuple #[]) (results_none rfl _ _ _) rfl (hR _ ?_)
    simp only [Nat.sub_zero, Nat.pow_zero, Nat.div_one] at hw'
    exact ⟨v', hw', hkp, hv'⟩
  · have hl1 : ((left : Int) == 0) = false := by simp; omega
    have hc0 := cell_of (i := 0) hw'.2.1
    have hc1 := cell_of (i := 1) hw'.2.1
    have hz0 := frozen_of (i := 0) hw'.2.1
    have hz1 := frozen_of (i := 1) hw'.2.1
    simp only [List.getElem?_toArray, List.getElem?_cons_zero, List.getElem?_cons_succ] at hc0 hc1
    generalize hcc : c + (k - left) = c' at *
    have HC := Lib.hid hcc
    have hcb : c' < 1099511627776 + 64 := by omega
    clear hcc
    generalize hNN : N * 2 ^ (k - left) + n / 2 ^ left % 2 ^ (k - left) = N' at *
    have HN := Lib.hid hNN
    clear hNN
    generalize hrr : (8 - c' % 8) % 8 = r at *
    have HRR := Lib.hid hrr
    have hr8 : r < 8 := by omega
    clear hrr
    go_upto_if 19 with (go_at_call 61; refine (toByte_any _ _ (by omega)).mono ?_; rintro e w' ⟨rfl, rfl⟩; rw [HRR.out])
    refine wp_cut (PutRoom base w p v N' c' n left) ?_ ?_
    · rintro ⟨tm2, df2⟩ w2 ⟨rfl, hs, h0, h1, h6, r2, v2, h7, hr1, hr2, hr3, hw2, hkp2, hv2⟩
      simp only at hs h0 h1 h6 h7
      obtain ⟨f2, hf2, hg⟩ := fr_open hs
      have e0 := hg _ _ h0
      have e1 := hg _ _ h1
      have e6 := hg _ _ h6
      have e7 := hg _ _ h7
      simp only [List.range, List.range.loop, List.map] at hf2
      rw [e0, e1, e6, e7] at hf2
      clear e0 e1 e6 e7 hg hs h0 h1 h6 h7 hc0 hc1 hz0 hz1
      subst hf2
      obtain ⟨g, L, cap, x, rfl, hcap, hmax, hL, hgp, hgc, hgz, hx, hx0, hst⟩ := hw2.step (by omega) hr2
      have hc0 := cell_of (i := 0) hw2.2.1
      have hc1 := cell_of (i := 1) hw2.2.1
      have hz0 := frozen_of (i := 0) hw2.2.1
      have hz1 := frozen_of (i := 1) hw2.2.1
      simp only [List.getElem?_toArray, List.getElem?_cons_zero, List.getElem?_cons_succ] at hc0 hc1
      have HX0 := Lib.hid hx0
      have HST := Lib.hid hst
      have HL := Lib.hid hL
      have HR3 := Lib.hid hr3
      clear hx0 hst hL hr3
      obtain ⟨s, hs1, hs2, hs3, hs4⟩ : ∃ s : Nat, 1 ≤ s ∧ s ≤ r2 ∧ s ≤ left ∧ (s = r2 ∨ s = left) := ⟨min r2 left, by omega, by omega, by omega, by omega⟩
      go_upto_region 6 with fail
      refine wp_cut (fun a' w3 => w3 = w2 ∧ a'.defers = [] ∧ a'.tmps.size = 67 ∧ a'.tmps[0]? = some (.pointer (some ⟨p, 0, none⟩)) ∧ a'.tmps[1]? = some (.int .u64 (n : Int)) ∧ a'.tmps[6]? = some (.int .i64 ((left : Nat) : Int)) ∧ a'.tmps[7]? = some (.int .i64 ((r2 : Nat) : Int)) ∧ a'.tmps[8]? = some (.int .i64 ((s : Nat) : Int))) ?_ ?_
      · obtain ⟨l', rfl⟩ : ∃ l', left = l' + s := ⟨left - s, by omega⟩
        obtain ⟨q, rfl⟩ : ∃ q, r2 = q + s := ⟨r2 - s, by omega⟩
        have hs5 : s ≤ 8 := by omega
        clear hs4 hl1
        rintro ⟨tm3, df3⟩ w3 ⟨rfl, rfl, hs, h0, h1, h6, h7, h8⟩
        simp only at hs h0 h1 h6 h7 h8
        obtain ⟨f3, hf3, hg⟩ := fr_open hs
        have e0 := hg _ _ h0
        have e1 := hg _ _ h1
        have e6 := hg _ _ h6
        have e7 := hg _ _ h7
        have e8 := hg _ _ h8
        simp only [List.range, List.range.loop, List.map] at hf3
        rw [e0, e1, e6, e7, e8] at hf3
        clear e0 e1 e6 e7 e8 hg hs h0 h1 h6 h7 h8
        subst hf3
        go_wp2
        have hLb : L < 1099511627776 := by have := HL.out; omega
        obtain ⟨y, hy⟩ : ∃ y, n / 2 ^ l' % 2 ^ s = y := ⟨_, rfl⟩
        obtain ⟨z, hz⟩ : ∃ z, y * 2 ^ q = z := ⟨_, rfl⟩
        obtain ⟨xz, hxz⟩ : ∃ xz, x + z = xz := ⟨_, rfl⟩
        have hys : y < 2 ^ s := by rw [← hy]; exact Nat.mod_lt _ (Nat.two_pow_pos s)
        have hp8 : 2 ^ (q + s) ≤ 2 ^ 8 := Nat.pow_le_pow_right (by decide) hr2
        have hp8s : 2 ^ s ≤ 2 ^ 8 := Nat.pow_le_pow_right (by decide) hs5
        have hzs : z < 2 ^ (q + s) := by rw [← hz, Nat.add_comm q s, Nat.pow_add]; exact Nat.mul_lt_mul_of_pos_right hys (Nat.two_pow_pos _)
        have hlow : Calls Try.prog 62 #[.int .u8 (IntKind.u8.wrap ((n : Int) / 2 ^ l')), .int .i64 (s : Int)] w3.drew fun e w'' => e = .returned (.int .u8 (y : Int)) ∧ w'' = w3.drew := by
          have e1 : IntKind.u8.wrap ((n : Int) / 2 ^ l') = ((n / 2 ^ l' % 256 : Nat) : Int) := by
            rw [IntKind.wrap_u8, Int.natCast_emod, Int.natCast_ediv, Int.natCast_pow]; rfl
          have e2 : n / 2 ^ l' % 256 % 2 ^ s = y := by
            rw [← hy]; simpa using part_of_byte (n / 2 ^ l') 0 s (by omega)
          rw [e1, ← e2]
          exact (lowest_any _ s _ (Nat.mod_lt _ (by decide)) hs1 hs5).mono fun _ _ ⟨h, h'⟩ => ⟨h, h'.symm⟩
        have wy : IntKind.u8.wrap ((y : Int) * 2 ^ q) = (z : Int) := by
          rw [show ((y : Int) * 2 ^ q) = ((z : Nat) : Int) by rw [← hz, Int.natCast_mul, Int.natCast_pow]; rfl, IntKind.wrap_u8]; omega
        have hor : bits .or .u8 (x : Int) (z : Int) = (xz : Int) := by
          rw [u8_or_nat x z hx (by omega), or_add x z (q + s) HX0.out hzs, hxz]
        have HY := Lib.hid hy
        have HZ := Lib.hid hz
        have HXZ := Lib.hid hxz
        clear hy hz hxz hys hp8 hp8s hzs
        have wL : IntKind.i64.wrap (L : Int) = L := IntWalk.i64_in _ (by omega)
        have hLL : (L : Int) < (L : Int) + 1 := by omega
        have wq : IntKind.i64.wrap (q : Int) = q := IntWalk.i64_in _ (by omega)
        refine wp_region_still_tail 24 (by kernel_rfl) (by kernel_rfl) ?_
        simp only [List.take_succ_cons, List.take_zero, List.drop_succ_cons, List.drop_zero]
        repeat still_step
        refine wpStill_step (fun K hK => ?_)
        go_simp
        refine ⟨_, hlow, hK _ ?_⟩
        clear hK K
        repeat still_step
        refine wpStill_nil ?_
        change wpList _ _ _ _ _ w3.drew
        go_wp2
        refine wp_goto ⟨rfl, ⟨rfl, rfl, rfl, rfl, l', by omega, rfl, _, ?_, ?_, hv2⟩, ?_⟩
        · have hst := HST.out s y hs2 (by rw [← HY.out]; exact Nat.mod_lt _ (Nat.two_pow_pos s))
          have e1 : c + (k - l') = c' + s := by have := HC.out; omega
          have e2 : N * 2 ^ (k - l') + n / 2 ^ l' % 2 ^ (k - l') = N' * 2 ^ s + y := by
            rw [← HN.out, ← HY.out]
            have h := put_more N n (k - (l' + s)) (l' + s) s (by omega)
            rw [show l' + s - s = l' by omega, show k - (l' + s) + s = k - l' by omega] at h
            exact h.symm
          have e3 : (8 - (c' + s) % 8) % 8 = q := by have := HR3.out; omega
          rw [e1, e2, e3]
          rw [show q + s - s = q by omega, HZ.out, HXZ.out] at hst
          exact hst
        · refine ((hkp2.setCell ?_ _).setCell (.inl (.inl rfl)) _).drew
          rcases hv2 with h | ⟨k', h, h'⟩
          · exact .inl (.inr h.symm)
          · simp only [Value.ownBlock, Option.some.injEq] at h
            exact .inr (by rw [h]; exact h')
        · simp [putMeasure, intOf]
          omega
      · intro J K' hJ hK'
        have HS4 := Lib.hid hs4
        clear hs4
        go_wp2
        all_goals
          refine hJ _ _ ⟨rfl, rfl, rfl, rfl, rfl, rfl, rfl, ?_⟩
          have h4 := HS4.out
        · have e : s = left := by omega
          rw [e]; rfl
        · have e : s = r2 := by omega
          rw [e]; rfl
    · intro J K' hJ hK'
      by_cases hr : r = 0
      · subst hr
        obtain ⟨hbp, hp, hne, B, ho, hpk⟩ := hw'
        have hlen := hpk.2.1
        go_wp2_with (at_builtin; refine wpList_app _ rfl (.tmp 24) (.tmp 25) 26 rfl base 5 (.int .u8 0) 1 1 Try.underlying26 info_u8 rfl (by decide) v' B.length (u8s B) rfl (ho.alloc _) _ 1 1 [.int .u8 0] rfl (src_one _ _ _ rfl) ?_ ?_ ?_ ?_)
        · simp only [maxLen]; omega
        · omega
        · have := hkp.size; simp; omega
        · intro v1 w1 ho1 hg1 hv1
          have hpa : (w'.alloc (.cells #[.int .u8 0] 5)).heap[p]? = some (.cells #[v', .int .i64 c'] 58 (0, 0)) := (Below.heap_alloc _ _ _ (lt_of_heap hp)).trans hp
          have hlt := lt_of_heap hp
          have hroom := Wr.room hbp hpa hne hpk hg1 ho1 (by
            rcases hv1 with h | h
            · exact .inl h
            · exact .inr (fun k hk => by rw [h] at hk; simp at hk; omega))
          have hp1 : w1.heap[p]? = some (.cells #[v', .int .i64 c'] 58 (0, 0)) := (hg1.block p (lt_of_heap hpa) (fun e => hne e.symm)).trans hpa
          have hc0 := cell_of (i := 0) hp1
          have hz0 := frozen_of (i := 0) hp1
          simp only [List.getElem?_toArray, List.getElem?_cons_zero] at hc0
          have hkp1 : Kept (Only p v) w w1 := by
            refine (hkp.alloc (.cells #[.int .u8 0] 5)).grown hg1 (fun k hk => ?_)
            rcases hv' with h | ⟨k', h, h2⟩
            · exact .inl (.inr (h ▸ hk))
            · rw [h] at hk; simp at hk; exact .inr (by omega)
          have hv1' : v1.ownBlock = v.ownBlock ∨ ∃ k, v1.ownBlock = some k ∧ w.heap.size ≤ k := by
            rcases hv1 with h | h
            · rw [h]; exact hv'
            · exact .inr ⟨_, h, by have := hkp.size; simp; omega⟩
          obtain ⟨ao, cap1, rfl, hcap1, hmax1⟩ := owns_shape ho1
          have HR := Lib.hid hroom
          have HK := Lib.hid hkp1
          have HV := Lib.hid hv1'
          clear hroom hkp1 hv1' hv1 hg1 hpa ho1 hp1 hp ho hpk hne hkp hv'
          go_wp2
          refine hJ _ _ ?_
          exact ⟨rfl, rfl, rfl, rfl, rfl, 8, _, rfl, by omega, by omega, by rw [HRR.out], HR.out, HK.out.setCell (.inl (.inl rfl)) _, HV.out⟩
      · have hrb : ((r : Int) == 0) = false := by simp; omega
        go_wp2
        refine hJ _ _ ?_
        exact ⟨rfl, rfl, rfl, rfl, rfl, r, v', rfl, by omega, by omega, by rw [HRR.out]; omega, hw', hkp, hv'⟩

set_option maxRecDepth 10000 in
set_option maxHeartbeats 400000 in
theorem put_any (base p : Nat) (v : Value) (N c : Nat) (n : Nat) (width : Int) (w : World) (hw : Wr base w p v N c ((8 - c % 8) % 8)) (hc : c < 1099511627776) (hb : base ≤ w.heap.size) :
    Calls Try.prog 45 #[.pointer (some ⟨p, 0, none⟩), .int .u64 (n : Int), .int .i64 width] w fun e w' => e = .returned (.tuple #[]) ∧ PutPost base w p v (N * 2 ^ wid width + n % 2 ^ wid width) (c + wid width) w' := by
  have hpass := put_pass base p v N c n (wid width) w (wid_le width) hc hb (fun e w' => e = .returned (.tuple #[]) ∧ PutPost base w p v (N * 2 ^ wid width + n % 2 ^ wid width) (c + wid width) w') (fun w' h => ⟨rfl, h⟩)
  have hP := Lib.hid hpass
  clear hpass
  go_enter Try.func45, Try.ntmps45
  go_wp2
  refine wp_scope_jumps 0 (PutInv base w p v N c (wid width) n) (fun a' _ => putMeasure a') rfl ?_ ?_
  · go_wp2_with (go_at_call 60; refine (held_any _ _).mono ?_; rintro e w' ⟨rfl, rfl⟩)
    go_step3
    rename_i K hK
    refine hK _ _ ?_
    refine wp_mono (hP.out _ _ ⟨rfl, rfl, rfl, rfl, wid width, Nat.le_refl _, rfl, v, ?_, Kept.refl _ _, .inl rfl⟩) ?_
    · simpa [Nat.mod_one] using hw
    · intro e a' w' h
      cases e with
      | goto l => exact ⟨h.1, h.2.1⟩
      | normal => exact h
      | exit id => exact h
      | ret => exact h
      | panic ch => exact h
      | outgrown => exact h
  · intro a' w' hi
    refine wp_seq (wp_skip ?_)
    exact hP.out a' w' hi

end Go.Proofs.Ytlbnjclchmnomaa
