/- Package section: putPart. -/
import Derived.Test.YtlbnjclchmnomaaSecAhead
import Derived.Test.YtlbnjclchmnomaaLoopAt
namespace Go.Proofs.Ytlbnjclchmnomaa
open Go.RowKit Bx

theorem dg_mod (k : Nat) : ∀ n, dg k (n % 2 ^ k) = dg k n := by
  induction k with
  | zero => intro n; rfl
  | succ k ih =>
    intro n
    simp only [dg]
    rw [Nat.pow_succ, Nat.mul_comm, Nat.mod_mul_right_div_self, ih, Nat.mod_mul_right_mod]

/-- A part's numbers can be put: each is near, none is too long; the K of a Raw part is held. -/
structure PutOk (Q : List Int) (k : Int) (r : Bool) : Prop where
  k0 : 0 ≤ k
  k1 : k ≤ 31
  near : r = false → ∀ i, i < Q.length → nr (Q.getD i 0) = true ∧ fd (Q.getD i 0) / 2 ^ kk k ≤ 65535

theorem ceach_pos {Q : List Int} {k : Int} {r : Bool} (h : 0 ≤ ceach Q k r) : nrs Q = true := by
  unfold ceach cbits at h
  split at h
  · split at h
    · next h1 => exact h1.1
    · omega
  · split at h
    · assumption
    · omega

theorem putOk_of {m : Nat} (hm : m ≤ 30) {Q : List Int} {k : Int} {r : Bool} (h : zok m Q (k, r) = true) (hl : lng Q (k, r) = false) : PutOk Q k r := by
  simp only [zok, Bool.and_eq_true, decide_eq_true_eq, Bool.or_eq_true] at h
  obtain ⟨h1, h2⟩ := h
  have hn := ceach_pos h1
  refine ⟨?_, ?_, fun hr i hi => ⟨nrs_get hn i hi, ?_⟩⟩
  · rcases h2 with h2 | h2
    · subst h2
      unfold ceach at h1
      rw [if_pos rfl] at h1
      split at h1
      · next h3 => have := h3.2.1; omega
      · omega
    · exact h2.1
  · rcases h2 with h2 | h2
    · subst h2
      unfold ceach at h1
      rw [if_pos rfl] at h1
      split at h1
      · next h3 => exact h3.2.2
      · omega
    · have := h2.2; omega
  · subst hr
    simp only [lng, Bool.not_false, Bool.true_and] at hl
    have h4 := List.any_eq_false.1 hl (Q.getD i 0) (by simp [List.getD, hi])
    simpa using h4

theorem flat_step {Q : List Int} {i : Nat} (hi : i < Q.length) (r : Bool) (k : Int) : (Q.take (i + 1)).flatMap (nb r k) = (Q.take i).flatMap (nb r k) ++ nb r k (Q.getD i 0) := by
  rw [take_get hi, List.flatMap_append]
  simp

theorem nb_len {Q : List Int} {k : Int} {r : Bool} (h : PutOk Q k r) (i : Nat) (hi : i < Q.length) : (nb r k (Q.getD i 0)).length ≤ 65567 := by
  unfold nb
  cases r with
  | true =>
    rw [if_pos rfl, dg_length]
    have := h.k1
    omega
  | false =>
    rw [if_neg (by simp), rbits_length]
    have := (h.near rfl i hi).2
    have := kk_le k
    unfold rlen
    omega

theorem flat_len15 {Q : List Int} {k : Int} {r : Bool} (h : PutOk Q k r) (i : Nat) (hi : i ≤ Q.length) : ((Q.take i).flatMap (nb r k)).length ≤ i * 65567 := by
  induction i with
  | zero => simp
  | succ i ih =>
    rw [flat_step (by omega), List.length_append]
    have := ih (by omega)
    have := nb_len h i (by omega)
    omega

theorem ahb_len (wd : Bool) (p : Int × Bool) : (ahb wd p).length ≤ 10 := by
  unfold ahb
  rcases wA_cases wd with ⟨rfl, e, e2⟩ | ⟨rfl, e, e2⟩
  all_goals
    split <;> simp [dg_length, e]

theorem put_rice (base p : Nat) (v : Value) (X : List Bool) (n k : Int) (w : World) (h : Wr base w p v (num X) X.length (pad X.length)) (hn : nr n = true) (hl : fd n / 2 ^ kk k ≤ 65535) (hc : X.length < 1099511000000) (hb : base ≤ w.heap.size) :
    Calls Try.prog 49 #[.pointer (some ⟨p, 0, none⟩), .int .i64 n, .int .i64 k] w fun e w' => e = .returned (.int .i64 0) ∧ PutPost base w p v (num (X ++ rbits n k)) (X ++ rbits n k).length w' := by
  refine (ricePut_any base p v (num X) X.length n k w h hc hb).mono ?_
  rintro e w' (⟨h, _⟩ | ⟨_, h, _⟩ | ⟨_, _, rfl, h⟩)
  · rw [hn] at h; exact absurd h (by decide)
  · omega
  · rw [num_rbits, List.length_append, rbits_length]
    exact ⟨rfl, h⟩

noncomputable def ppartL : Code := (loopAt 6 (Try.f27.body.getD .skip)).getD .skip

def PPartInv (base p g : Nat) (qo : Option Addr) (ql qc : Nat) (v : Value) (X : List Bool) (Q : List Int) (k : Int) (r : Bool) (w : World) (a : Act) (w' : World) : Prop :=
  a.defers = [] ∧ a.tmps.size = 50 ∧ a.tmps[0]? = some (.pointer (some ⟨p, 0, none⟩)) ∧ a.tmps[6]? = some (.pointer (some ⟨g, 0, none⟩)) ∧ a.tmps[30]? = some (.slice qo ql qc) ∧ a.tmps[31]? = some (.int .i64 (ql : Int)) ∧
  ∃ i : Nat, i ≤ ql ∧ a.tmps[32]? = some (.int .i64 (i : Int)) ∧ PutPost base w p v (num (X ++ (Q.take i).flatMap (nb r k))) (X ++ (Q.take i).flatMap (nb r k)).length w'

set_option maxRecDepth 10000 in
set_option maxHeartbeats 2000000 in
theorem ppart_l (base p g : Nat) (v : Value) (X : List Bool) (qo : Option Addr) (ql qc : Nat) (Q : List Int) (k : Nat) (r : Bool) (w1 w : World) (a : Act) (E : Exit → Act → World → Prop)
    (hd : a.defers = []) (hs : a.tmps.size = 50) (h0 : a.tmps[0]? = some (.pointer (some ⟨p, 0, none⟩))) (h6 : a.tmps[6]? = some (.pointer (some ⟨g, 0, none⟩))) (h30 : a.tmps[30]? = some (.slice qo ql qc)) (h31 : a.tmps[31]? = some (.int .i64 (ql : Int))) (h32 : a.tmps[32]? = some (.int .i64 0))
    (hw : PutPost base w1 p v (num X) X.length w) (hq : ∀ w', Kept (Only p v) w1 w' → Sl w' (.slice qo ql qc) (ivs Q))
    (hg : ∀ w', Kept (Only p v) w1 w' → w'.cell? ⟨g, 0, none⟩ = some (.int .i64 (k : Int)) ∧ w'.cell? ⟨g, 1, none⟩ = some (.bool r)) (hok : PutOk Q (k : Int) r)
    (hc : X.length + Q.length * 65567 < 1000000000000) (hb : base ≤ w1.heap.size)
    (hE : ∀ a' w', a'.defers = [] → a'.tmps.size = 50 → PutPost base w1 p v (num (X ++ Q.flatMap (nb r (k : Int)))) (X ++ Q.flatMap (nb r (k : Int))).length w' → E (.exit 0) a' w') : Code.wp Try.prog ppartL E a w := by
  have hql : ql = Q.length := by
    obtain ⟨_, _, e, _⟩ := (hq w1 (Kept.refl _ _)).ints
    simp only [Value.slice.injEq] at e
    exact e.2.1
  have HQ := Lib.hid hq
  have HG := Lib.hid hg
  have HC := Lib.hid hc
  have OK := Lib.hid hok
  have HE := Lib.hid hE
  have QL := Lib.hid hql
  have HK31 := Lib.hid hok.k1
  clear hq hg hc hok hE hql
  refine wp_loop (PPartInv base p g qo ql qc v X Q (k : Int) r w1) (fun a _ => ql - (intOf (a.tmps.getD 32 undef)).toNat) ?_ ?_
  · exact ⟨hd, hs, h0, h6, h30, h31, 0, Nat.zero_le _, h32, by simpa using hw⟩
  · clear hd hs h0 h6 h30 h31 h32 hw
    rintro ⟨tm, df⟩ w2 ⟨rfl, hs, e0, e6, e30, e31, i, hi, e32, hp⟩
    simp only at hs e0 e6 e30 e31 e32
    obtain ⟨f, hf, hg⟩ := fr_open hs
    have g0 := hg _ _ e0
    have g6 := hg _ _ e6
    have g30 := hg _ _ e30
    have g31 := hg _ _ e31
    have g32 := hg _ _ e32
    simp only [List.range, List.range.loop, List.map] at hf
    rw [g0, g6, g30, g31, g32] at hf
    clear g0 g6 g30 g31 g32 hg hs e0 e6 e30 e31 e32
    subst hf
    by_cases hlt : i < ql
    · have hdd : decide ((i : Int) < (ql : Int)) = true := decide_eq_true (by omega)
      have hi1 : (i : Int) < (ql : Int) := by omega
      have hiQ : i < Q.length := by have := QL.out; omega
      obtain ⟨v2, r2, k2, n2⟩ := hp.wr
      obtain ⟨b1, o1, rfl⟩ := (HQ.out _ k2).where (by omega)
      have x1 := (HQ.out _ k2).cellInt (i := i) hiQ
      obtain ⟨y0, y1⟩ := HG.out _ k2
      have HST := Lib.hid (flat_step hiQ r (k : Int))
      have HLN := Lib.hid (flat_len15 OK.out i (Nat.le_of_lt hiQ))
      have HCC := Lib.hid (show (X ++ (Q.take i).flatMap (nb r (k : Int))).length < 1000000000000 by
        have := HLN.out; have := HC.out; have h3 : i * 65567 ≤ Q.length * 65567 := Nat.mul_le_mul_right _ (Nat.le_of_lt hiQ); rw [List.length_append]; omega)
      have HI := Lib.hid hlt
      have HW := Lib.hid (show wrap64 ((i : Int) + 1) = ((i + 1 : Nat) : Int) by have := HC.out; rw [w64_in _ (by omega)]; omega)
      have NR := Lib.hid (fun hr => OK.out.near hr i hiQ)
      have R2 := Lib.hid r2
      have K2 := Lib.hid k2
      have N2 := Lib.hid n2
      have S2 := Lib.hid (Nat.le_trans hb k2.size)
      clear hp r2 k2 n2 hlt hi
      have HST2 := Lib.hid (show X ++ (Q.take (i + 1)).flatMap (nb r (k : Int)) = (X ++ (Q.take i).flatMap (nb r (k : Int))) ++ nb r (k : Int) (Q.getD i 0) by rw [HST.out, List.append_assoc])
      clear HST HLN HG
      generalize X ++ (Q.take i).flatMap (nb r (k : Int)) = Y at *
      generalize Q.getD i 0 = n at *
      cases r with
      | true =>
        have hu := u64n_wrap n
        have PD := Lib.hid (put_dg base p v2 Y (u64n n) k w2 R2.out (by have := HK31.out; omega) (by have := HCC.out; omega) S2.out)
        have HNB := Lib.hid (show nb true (k : Int) n = dg k (u64n n) by simp [nb])
        generalize u64n n = un at *
        go_wp2_with (go_at_call 45; refine PD.out.mono ?_; rintro e w3 ⟨rfl, p3⟩)
        rw [HW.out]
        refine ⟨⟨rfl, rfl, rfl, rfl, rfl, rfl, i + 1, HI.out, rfl, ?_⟩, nearer HI.out rfl⟩
        rw [HST2.out, HNB.out]
        exact PutPost.trans K2.out N2.out p3
      | false =>
        obtain ⟨n1, n2⟩ := NR.out rfl
        have PD := Lib.hid (put_rice base p v2 Y n (k : Int) w2 R2.out n1 n2 (by have := HCC.out; omega) S2.out)
        have HNB := Lib.hid (show nb false (k : Int) n = rbits n (k : Int) by simp [nb])
        clear n1 n2
        go_wp2_with (go_at_call 49; refine PD.out.mono ?_; rintro e w3 ⟨rfl, p3⟩)
        rw [HW.out]
        refine ⟨⟨rfl, rfl, rfl, rfl, rfl, rfl, i + 1, HI.out, rfl, ?_⟩, nearer HI.out rfl⟩
        rw [HST2.out, HNB.out]
        exact PutPost.trans K2.out N2.out p3
    · have hie : i = ql := by omega
      subst hie
      have hdd : decide ((i : Int) < (i : Int)) = false := decide_eq_false (by omega)
      rw [show Q.take i = Q by rw [QL.out, List.take_length]] at hp
      have HP := Lib.hid hp
      clear hp hlt hi
      go_wp2
      exact HE.out _ _ rfl rfl HP.out

set_option maxRecDepth 10000 in
set_option maxHeartbeats 2000000 in
theorem ppart_any (base p : Nat) (v : Value) (X : List Bool) (wd : Bool) (qv : Value) (Q : List Int) (k : Int) (r : Bool) (w : World) (h : Wr base w p v (num X) X.length (pad X.length)) (hq : ∀ w', Kept (Only p v) w w' → Sl w' qv (ivs Q)) (hok : PutOk Q k r)
    (hc : X.length + 10 + Q.length * 65567 < 1000000000000) (hb : base ≤ w.heap.size) :
    Calls Try.prog 27 #[.pointer (some ⟨p, 0, none⟩), qv, .agg #[.int .i64 k, .bool r], .bool wd] w fun e w' => e = .returned (.tuple #[]) ∧ PutPost base w p v (num (X ++ ptb wd Q (k, r))) (X ++ ptb wd Q (k, r)).length w' := by
  obtain ⟨qo, qc, rfl, -⟩ := (hq w (Kept.refl _ _)).ints
  obtain ⟨K, rfl⟩ : ∃ K : Nat, k = (K : Int) := ⟨k.toNat, by have := hok.k0; omega⟩
  have PC := Lib.hid (part_cells w (K : Int) r 50)
  have HG := Lib.hid (heap_alloc_new w (.cells #[.int .i64 (K : Int), .bool r] 50))
  have K1 := Lib.hid (show Kept (Only p v) w (w.alloc (.cells #[.int .i64 (K : Int), .bool r] 50)) from (Kept.refl _ w).alloc _)
  have R1 := Lib.hid (h.kept ((Kept.refl Nix w).alloc (.cells #[.int .i64 (K : Int), .bool r] 50)) (fun h => h) (fun _ _ h => h))
  have HQ := Lib.hid (show ¬ Only p v w.heap.size from fun e => by rcases e with e | e; have := h.lt; omega; have := (h.own e).2; omega)
  have SZ := Lib.hid (show base ≤ (w.alloc (.cells #[.int .i64 (K : Int), .bool r] 50)).heap.size by simp; omega)
  have PD := Lib.hid (fun v X (n k : Nat) w' (h : Wr base w' p v (num X) X.length (pad X.length)) (hk : k ≤ 64) (hc : X.length < 1099511627776) hb => put_dg base p v X n k w' h hk hc hb)
  have KB := Lib.hid (kbits_any wd)
  have RM := Lib.hid (rawMark_any wd)
  have W5 := Lib.hid (show wA wd ≤ 64 by cases wd <;> decide)
  have hK31 : K ≤ 31 := by have := hok.k1; omega
  have HK31 := Lib.hid hK31
  have hw : IntKind.u64.wrap (K : Int) = (K : Int) := by rw [IntKind.wrap_u64]; omega
  have SL := Lib.hid (fun w' (h : Kept (Only p v) (w.alloc (.cells #[.int .i64 (K : Int), .bool r] 50)) w') => hq w' (K1.out.trans h (fun _ h => h) (fun _ _ h => h)))
  have OK := Lib.hid hok
  have HC := Lib.hid hc
  have fin : ∀ w', PutPost base (w.alloc (.cells #[.int .i64 (K : Int), .bool r] 50)) p v (num (X ++ ptb wd Q ((K : Int), r))) (X ++ ptb wd Q ((K : Int), r)).length w' → PutPost base w p v (num (X ++ ptb wd Q ((K : Int), r))) (X ++ ptb wd Q ((K : Int), r)).length w' := by
    rintro w' ⟨v3, r3, k3, n3⟩
    exact ⟨v3, r3, K1.out.trans k3 (fun _ h => h) (fun _ _ h => h), n3.imp id (fun ⟨k, h1, h2⟩ => ⟨k, h1, Nat.le_trans K1.out.size h2⟩)⟩
  have FIN := Lib.hid fin
  have HAL := Lib.hid (ahb_len wd ((K : Int), r))
  have hcell : ∀ w', Kept (Only p v) (w.alloc (.cells #[.int .i64 (K : Int), .bool r] 50)) w' → w'.cell? ⟨w.heap.size, 0, none⟩ = some (.int .i64 (K : Int)) ∧ w'.cell? ⟨w.heap.size, 1, none⟩ = some (.bool r) := fun w' hk => by
    have hb := hk.heap HG.out HQ.out
    exact ⟨by rw [cell_of hb]; rfl, by rw [cell_of hb]; rfl⟩
  have CL := Lib.hid hcell
  clear h hq hok hc hb fin hcell
  go_enter Try.func27, Try.ntmps27
  go_upto_region 1 with fail
  generalize w.alloc (.cells #[.int .i64 (K : Int), .bool r] 50) = w1 at *
  obtain ⟨x0, x1⟩ := CL.out w1 (Kept.refl _ _)
  cases r with
  | true =>
    have HAB := Lib.hid (show ahb wd ((K : Int), true) = dg (wA wd) (wM wd + 1) ++ dg 5 K from by simp [ahb])
    generalize wM wd + 1 = M at *
    generalize wA wd = A at *
    have P1 := Lib.hid (PD.out v X M A w1 R1.out W5.out (by have := HC.out; omega) SZ.out)
    go_upto_region 3 with (first
      | (go_at_call 48; refine (KB.out _).mono ?_; rintro e w' ⟨rfl, rfl⟩)
      | (go_at_call 47; refine (RM.out _).mono ?_; rintro e w' ⟨rfl, rfl⟩)
      | (go_at_call 45; refine P1.out.mono ?_; rintro e w2 ⟨rfl, p2⟩))
    clear x0 x1 P1
    obtain ⟨v2, r2, k2, n2⟩ := p2.wr
    obtain ⟨x0, x1⟩ := CL.out w2 k2
    have S2 := Nat.le_trans SZ.out k2.size
    have P3 := Lib.hid (PD.out v2 _ K 5 w2 r2 (by decide) (by have := HC.out; have := W5.out; rw [List.length_append, dg_length]; omega) S2)
    have K2 := Lib.hid k2
    have N2 := Lib.hid n2
    clear p2 r2 k2 n2 S2
    go_wp2_with (go_at_call 45; refine P3.out.mono ?_; rintro e w3 ⟨rfl, p3⟩; have P4 := Lib.hid (PutPost.trans K2.out N2.out p3); clear p3)
    rw [List.append_assoc, ← HAB.out] at P4
    refine ppart_l base p w.heap.size v (X ++ ahb wd ((K : Int), true)) qo Q.length qc Q K true w1 _ _ _ rfl rfl rfl rfl rfl rfl rfl P4.out SL.out CL.out OK.out (by have := HC.out; have := HAL.out; rw [List.length_append]; omega) SZ.out ?_
    rintro ⟨tm, df⟩ w4 rfl hs p4
    rw [List.append_assoc] at p4
    have P5 := Lib.hid (FIN.out w4 p4)
    obtain ⟨f, hf, -⟩ := fr_open hs
    simp only at hf
    subst hf
    clear p4 hs
    go_wp2
    go_end0
    exact ⟨rfl, P5.out⟩
  | false =>
    have HAB := Lib.hid (show ahb wd ((K : Int), false) = dg (wA wd) K from by simp [ahb])
    generalize wA wd = A at *
    go_upto_region 4 with fail
    obtain ⟨z0, z1⟩ := CL.out w1.drew (Kept.refl _ _).drew
    have P1 := Lib.hid (PD.out v X K A w1.drew R1.out W5.out (by have := HC.out; omega) SZ.out)
    clear x0 x1
    go_region_law
      (first
        | (go_simp; go_at_call 48; refine (KB.out _).mono ?_; rintro e w' ⟨rfl, rfl⟩)
        | (go_simp; go_at_call 45; refine P1.out.mono ?_; rintro e w2 ⟨rfl, p2⟩))
    all_goals
      have P4 := Lib.hid (show PutPost base w1 p v (num (X ++ dg A K)) (X ++ dg A K).length w2 from by
        obtain ⟨v2, r2, k2, n2⟩ := p2
        exact ⟨v2, r2, k2.undrew, n2⟩)
      rw [← HAB.out] at P4
      clear p2 z0 z1 P1
      go_wp2
      refine ppart_l base p w.heap.size v (X ++ ahb wd ((K : Int), false)) qo Q.length qc Q K false w1 _ _ _ rfl rfl rfl rfl rfl rfl rfl P4.out SL.out CL.out OK.out (by have := HC.out; have := HAL.out; rw [List.length_append]; omega) SZ.out ?_
      rintro ⟨tm, df⟩ w4 rfl hs p4
      rw [List.append_assoc] at p4
      have P5 := Lib.hid (FIN.out w4 p4)
      obtain ⟨f, hf, -⟩ := fr_open hs
      simp only at hf
      subst hf
      clear p4 hs
      go_wp2
      go_end0
      exact ⟨rfl, P5.out⟩

end Go.Proofs.Ytlbnjclchmnomaa
