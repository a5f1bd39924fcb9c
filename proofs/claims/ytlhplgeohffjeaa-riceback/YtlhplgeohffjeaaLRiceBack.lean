/- The walk of the statement RiceBack. -/
import Derived.Test.YtlhplgeohffjeaaLRicePuts
import Derived.Deep.RegionHeld3
namespace Go.Proofs.Ytlhplgeohffjeaa
open Go.RowKit Bx

/-- Where bits of a writer begin with zeros and a one, so many zeros are told. -/
theorem tz_run {B : List Nat} {l : List Bool} {r : Nat} (h : Pk B (num l) l.length r) (rest : List Bool) : ∀ z a, l.drop a = List.replicate z false ++ true :: rest → tz B a = z := by
  have hl := h.2.1
  intro z
  induction z with
  | zero =>
    intro a ha
    have hla : a < l.length := by
      have := congrArg List.length ha
      simp at this; omega
    refine tz_one B a (by omega) ?_
    have := part_pk h a 1 (by omega)
    rw [ha] at this
    simpa [bt, num] using this
  | succ z ih =>
    intro a ha
    have hla : a < l.length := by
      have := congrArg List.length ha
      simp at this; omega
    have hb : bt B a ≠ 1 := by
      have := part_pk h a 1 (by omega)
      rw [ha] at this
      have h2 : bt B a = 0 := by simpa [bt, num, List.replicate_succ] using this
      omega
    rw [tz_zero B a (by omega) hb]
    congr 1
    refine ih (a + 1) ?_
    rw [← List.drop_drop, ha]
    simp [List.replicate_succ]

/-- A number's bits within a writer's: it is taken. -/
theorem take_back {B : List Nat} {P S : List Bool} {n k : Int} {r : Nat} (h : Pk B (num (P ++ rbits n k ++ S)) (P ++ rbits n k ++ S).length r) :
    tkv B P.length 0 (kk k) = n ∧ tka B P.length 0 (kk k) = P.length + (rbits n k).length ∧ tkf B P.length 0 (kk k) = 0 := by
  have hl := h.2.1
  have hz := tz_run h (dg (kk k) (fd n) ++ S) (fd n / 2 ^ kk k) P.length (by simp [rbits])
  have hle : P.length + (fd n / 2 ^ kk k) + 1 + kk k ≤ 8 * B.length := by
    have e := rbits_length n k
    simp only [List.length_append, rlen] at hl e
    omega
  obtain ⟨x1, x2, x3⟩ := tk_in (k := kk k) hz hle
  have hlow := part_pk h (P.length + (fd n / 2 ^ kk k) + 1) (kk k) (by
    have e := rbits_length n k
    simp only [List.length_append, rlen] at hl e ⊢
    omega)
  have hd : (P ++ rbits n k ++ S).drop (P.length + (fd n / 2 ^ kk k) + 1) = dg (kk k) (fd n) ++ S := by
    have e1 : P ++ rbits n k ++ S = (P ++ (List.replicate (fd n / 2 ^ kk k) false ++ [true])) ++ (dg (kk k) (fd n) ++ S) := by simp [rbits]
    rw [e1]
    exact List.drop_left' (by simp; omega)
  rw [hd, List.take_left' (dg_length _ _), num_dg] at hlow
  refine ⟨?_, ?_, x3⟩
  · rw [x1, hlow, Nat.mul_comm, Nat.div_add_mod, uf_fd]
  · rw [x2, rbits_length, rlen]; omega

/-- The bits of the first i numbers. -/
def allR (zl zk : List Int) (i : Nat) : List Bool := (List.range i).flatMap fun j => rbits (zl.getD j 0) (zk.getD j 0)
theorem allR_succ (zl zk : List Int) (i : Nat) : allR zl zk (i + 1) = allR zl zk i ++ rbits (zl.getD i 0) (zk.getD i 0) := by
  simp [allR, List.range_succ]
theorem allR_le (zl zk : List Int) (m : Nat) : ∀ i, ∃ S, allR zl zk (m + i) = allR zl zk m ++ S := by
  intro i
  induction i with
  | zero => exact ⟨[], by simp⟩
  | succ i ih =>
    obtain ⟨S, hS⟩ := ih
    exact ⟨S ++ rbits (zl.getD (m + i) 0) (zk.getD (m + i) 0), by rw [← Nat.add_assoc, allR_succ, hS, List.append_assoc]⟩

def RBInv1 (w : World) (vl vk : Value) (zl zk : List Int) (p : Nat) (a : Act) (w' : World) : Prop :=
  a.defers = [] ∧ a.tmps.size = 113 ∧ a.tmps[0]? = some vl ∧ a.tmps[1]? = some vk ∧ a.tmps[5]? = some (.bool true) ∧ a.tmps[6]? = some (.pointer (some ⟨p, 0, none⟩)) ∧
  ∃ i, i ≤ zl.length ∧ a.tmps[8]? = some (.int .i64 ((i : Nat) : Int)) ∧ a.tmps[7]? = some (.int .i64 (((allR zl zk i).length : Nat) : Int)) ∧ (allR zl zk i).length ≤ 340 * i ∧ Kept Nix w w' ∧
    ∃ v, Wr w.heap.size w' p v (num (allR zl zk i)) (allR zl zk i).length (pad (allR zl zk i).length)

def RBInv2 (w : World) (vl vk : Value) (zl zk : List Int) (q : Nat) (u : Value) (B : List Nat) (a : Act) (w' : World) : Prop :=
  a.defers = [] ∧ a.tmps.size = 113 ∧ a.tmps[0]? = some vl ∧ a.tmps[1]? = some vk ∧ a.tmps[5]? = some (.bool true) ∧ a.tmps[10]? = some (.pointer (some ⟨q, 0, none⟩)) ∧ a.tmps[7]? = some (.int .i64 (((allR zl zk zl.length).length : Nat) : Int)) ∧
  ∃ i, i ≤ zl.length ∧ a.tmps[11]? = some (.int .i64 ((i : Nat) : Int)) ∧ Kept Nix w w' ∧ Rd w.heap.size w' q u B (allR zl zk i).length 0

set_option maxRecDepth 100000 in
set_option maxHeartbeats 1000000 in
theorem walk_RiceBack (w : World) (vl : Value) (zl : List Int) (sl : Sl w vl (zl.map (Value.int .i64))) (hzl : ∀ n ∈ zl, (Lit.int .i64 n).wf = true) (vk : Value) (zk : List Int) (sk : Sl w vk (zk.map (Value.int .i64))) (_hw : ∀ n ∈ zk, (Lit.int .i64 n).wf = true) :
    Calls Try.prog 5 #[vl, vk] w fun e w' => e = .returned (.bool true) ∧ Kept Nix w w' := by
  have HA := Lib.hid (awake_any w)
  obtain ⟨al, cl, hvl, hcl, hml, hpl⟩ := sl.ints
  obtain ⟨ak, ck, hvk, hck, hmk, hpk⟩ := sk.ints
  clear hpl hpk
  have HSL := Lib.hid sl
  have HSK := Lib.hid sk
  have HZL := Lib.hid hzl
  subst hvl
  subst hvk
  clear sl sk hzl
  by_cases hl : zl.length ≤ 20 ∧ zl.length ≤ zk.length
  · obtain ⟨hl1, hl2⟩ := hl
    have f1 : decide ((20 : Int) < (zl.length : Int)) = false := by simp; omega
    have f2 : decide (zk.length < zl.length) = false := by simp; omega
    have f3 : ¬ 20 < zl.length := by omega
    have f4 : ¬ zk.length < zl.length := by omega
    go_enter Try.func5, Try.ntmps5
    go_wp2_with fail
    refine HA.out.mono ?_
    rintro e w1 ⟨rfl, k1⟩
    have s1 := k1.size
    have HN := Lib.hid (new_any w.heap.size w1 s1)
    go_wp2_with fail
    refine HN.out.mono ?_
    rintro e w2 ⟨p, rfl, hp, r1, k2⟩
    have k2 := nix_trans k1 k2
    have R1 := Lib.hid r1
    clear HA HN k1 r1
    go_wp2_with fail
    refine wp_loop (RBInv1 w (.slice al zl.length cl) (.slice ak zk.length ck) zl zk p) (fun a _ => zl.length - (intOf (a.tmps.getD 8 undef)).toNat) ?_ ?_
    · exact ⟨rfl, rfl, rfl, rfl, rfl, rfl, 0, Nat.zero_le _, rfl, rfl, Nat.le_refl _, k2, _, by simpa [allR, num, pad] using R1.out⟩
    · rintro ⟨tm, df⟩ w3 ⟨rfl, hs, h0, h1, h5, h6, i, hi, h8, h7, hle, k3, v3, r3⟩
      simp only at hs h0 h1 h5 h6 h7 h8
      obtain ⟨f, hf, hg⟩ := fr_open hs
      have e0 := hg _ _ h0
      have e1 := hg _ _ h1
      have e5 := hg _ _ h5
      have e6 := hg _ _ h6
      have e7 := hg _ _ h7
      have e8 := hg _ _ h8
      simp only [List.range, List.range.loop, List.map] at hf
      rw [e0, e1, e5, e6, e7, e8] at hf
      clear e0 e1 e5 e6 e7 e8 hg hs h0 h1 h5 h6 h7 h8
      subst hf
      clear R1 k2
      have s3 := k3.size
      by_cases hlt : i < zl.length
      · obtain ⟨bl, ol, rfl⟩ := HSL.out.where (by omega)
        obtain ⟨bk, ok, rfl⟩ := HSK.out.where (by omega)
        have hd1 := (HSL.out.nix k3).cellInt (i := i) hlt
        have hd2 := (HSK.out.nix k3).cellInt (i := i) (by omega)
        have hi1 : (i : Int) < (zl.length : Int) := by omega
        have hi2 : (i : Int) < (zk.length : Int) := by omega
        have hx := bounds_i64 (HZL.out _ (List.getElem_mem hlt))
        rw [show zl[i] = zl.getD i 0 by simp [hlt]] at hx
        have hnext := allR_succ zl zk i
        obtain ⟨n, hn⟩ : ∃ n, zl.getD i 0 = n := ⟨_, rfl⟩
        obtain ⟨k, hk⟩ : ∃ k, zk.getD i 0 = k := ⟨_, rfl⟩
        rw [hn] at hd1 hx hnext
        rw [hk] at hd2 hnext
        have hHigh := fun wx => (refHigh_any n k wx hx.1 hx.2).mono fun e w' (h : _ ∧ _) => And.intro h.1 h.2.symm
        have hkl := kk_le k
        have hHb : (fd n / 2 ^ kk k : Nat) < 18446744073709551616 := Nat.lt_of_le_of_lt (Nat.div_le_self _ _) (fd_lt hx.1 hx.2)
        have HNE := Lib.hid (near_any n)
        have HRL := rbits_length n k
        unfold rlen at HRL
        have HPUT := Lib.hid (fun (wx : World) r => ricePut_any w.heap.size p v3 (num (allR zl zk i)) (allR zl zk i).length n k wx r (by omega))
        have HSZ := fun wx => (size_any n k wx).mono fun e w' (h : _ ∧ _) => And.intro h.1 h.2.symm
        have HNEXT := Lib.hid hnext
        have hnr := num_rbits (allR zl zk i) n k
        have HNR := Lib.hid hnr
        have HHIGH := Lib.hid hHigh
        have HSZE := Lib.hid HSZ
        have hszdef : nr n = true → sz n k = ((fd n / 2 ^ kk k : Nat) : Int) + 1 + (kk k : Int) := fun h => by simp [sz, h]
        have HSD := Lib.hid hszdef
        have HRLL := Lib.hid HRL
        generalize hH : fd n / 2 ^ kk k = H at *
        have HHH := Lib.hid hH
        have HIN := Lib.hid hn
        have HIK := Lib.hid hk
        clear hnext hnr HSZ hHigh hszdef HRL hH hn hk
        go_wp2_with fail
        go_quiet ((go_at_call 17; exact Calls.quiet_of_same (HHIGH.out _)))
        generalize nq = n1 at *
        by_cases hH3 : 300 < H
        · go_wp2_with fail
          go_ret
          exact ⟨rfl, k3.drewN n1⟩
        · cases hnr : nr n with
          | false =>
            rw [hnr] at HNE
            go_wp2_with (go_at_call 13; refine (HNE.out _).mono ?_; rintro e w' ⟨rfl, rfl⟩)
            go_ret
            exact ⟨rfl, k3.drewN n1⟩
          | true =>
            have hsz := HSD.out hnr
            rw [hnr] at HNE
            rw [hsz] at HSZE
            have HNRT := Lib.hid hnr
            clear hsz hnr
            go_wp2_with (go_at_call 13; refine (HNE.out _).mono ?_; rintro e w' ⟨rfl, rfl⟩)
            have kx := k3.drewN n1
            have rx : Wr w.heap.size (w3.drewN n1) p v3 (num (allR zl zk i)) (allR zl zk i).length (pad (allR zl zk i).length) := r3
            have hx1 : (w3.drewN n1).cell? ⟨bl, ol + i, none⟩ = some (.int .i64 n) := hd1
            have hx2 : (w3.drewN n1).cell? ⟨bk, ok + i, none⟩ = some (.int .i64 k) := hd2
            clear r3 hd1 hd2 k3 s3
            generalize w3.drewN n1 = wx at *
            have sx := kx.size
            go_still_tail 9, (by kernel_rfl)
            change wpList _ _ _ _ _ wx.drew
            go_wp2_with fail
            refine (HPUT.out wx.drew rx sx).mono ?_
            intro e w4 hpost
            rcases hpost with ⟨h, _⟩ | ⟨_, h, _⟩ | ⟨_, _, rfl, v4, r4, k4, g4⟩
            · rw [HNRT.out] at h; exact absurd h (by decide)
            · exfalso; have := HHH.out; omega
            have k4 := nix_put kx.drew k4 (fun j hj => (rx.foot j hj).1)
            have hd3 := (HSL.out.nix k4).cellInt (i := i) hlt
            have hd4 := (HSK.out.nix k4).cellInt (i := i) (by omega)
            rw [HIN.out] at hd3
            rw [HIK.out] at hd4
            rw [← HNR.out, ← rbits_length, ← List.length_append, ← HNEXT.out] at r4
            have hc : (allR zl zk (i + 1)).length = (allR zl zk i).length + (H + 1 + kk k) := by rw [HNEXT.out, List.length_append, HRLL.out]
            have HC := Lib.hid hc
            have hcb : (allR zl zk (i + 1)).length ≤ 340 * (i + 1) := by omega
            have R4 := Lib.hid r4
            have c0 : (((allR zl zk (i + 1)).length : Int) != ((allR zl zk i).length : Int) + ((H : Int) + 1 + (kk k : Int))) = false := by simp only [bne_eq_false_iff_eq]; omega
            clear rx r4 hx1 hx2 hc HPUT HHIGH
            go_wp2_with fail
            go_quiet ((go_at_call 15; exact Calls.quiet_of_same (HSZE.out _)))
            have HLE := Lib.hid (len_any w.heap.size p v4 (num (allR zl zk (i + 1))) _ _ (w4.drewN nq) R4.out)
            go_wp2_with (go_at_call 23; refine HLE.out.mono ?_; rintro e w' ⟨rfl, rfl⟩)
            refine ⟨⟨rfl, rfl, rfl, rfl, rfl, rfl, i + 1, hlt, rfl, ?_, hcb, k4.drewN nq, v4, R4.out⟩, ?_⟩
            · exact congrArg (fun z => some (Value.int .i64 z)) (by have := HC.out; omega)
            · simp [intOf]
              omega
      · obtain rfl : i = zl.length := by omega
        have hft : decide (zl.length < zl.length) = false := by simp
        have hpd := pad_le (allR zl zk zl.length).length
        obtain ⟨B, hpk, hby⟩ := bytes_of_wr r3 (by omega) (by omega) s3
        have H5 := Lib.hid hby
        have hBl : B.length < 1099511627776 := by have := hpk.2.1; omega
        have hB8 : 8 * B.length < 8589934592 := by have := hpk.2.1; omega
        have HPK := Lib.hid hpk
        clear hby hpk
        go_wp2_with fail
        refine H5.out.mono ?_
        rintro e w5 ⟨v5, rfl, o5, k5, g5⟩
        have s5 := k5.size
        have k5 := nix_trans k3 k5
        have H6 := Lib.hid (open_any w.heap.size v5 B w5 (sl_of_owns o5) HPK.out.1 hBl (by omega))
        go_wp2_with fail
        refine H6.out.mono ?_
        rintro e w6 ⟨q, u, rfl, hq, t6, k6, g6⟩
        have k6 := nix_trans k5 k6
        have T6 := Lib.hid t6
        clear H5 H6 k3 k5 r3 t6 o5 g5 g6 hlt
        go_wp2_with fail
        refine wp_loop (RBInv2 w (.slice al zl.length cl) (.slice ak zk.length ck) zl zk q u B) (fun a _ => zl.length - (intOf (a.tmps.getD 11 undef)).toNat) ?_ ?_
        · exact ⟨rfl, rfl, rfl, rfl, rfl, rfl, rfl, 0, Nat.zero_le _, rfl, k6, T6.out⟩
        · rintro ⟨tm, df⟩ w7 ⟨rfl, hs, h0, h1, h5, h10, h7, j, hj, h11, k7, t7⟩
          simp only at hs h0 h1 h5 h7 h10 h11
          obtain ⟨f2, hf, hg⟩ := fr_open hs
          have e0 := hg _ _ h0
          have e1 := hg _ _ h1
          have e5 := hg _ _ h5
          have e7 := hg _ _ h7
          have e10 := hg _ _ h10
          have e11 := hg _ _ h11
          simp only [List.range, List.range.loop, List.map] at hf
          rw [e0, e1, e5, e7, e10, e11] at hf
          clear e0 e1 e5 e7 e10 e11 hg hs h0 h1 h5 h7 h10 h11
          subst hf
          clear T6 k6 hft
          have s7 := k7.size
          by_cases hlt : j < zl.length
          · obtain ⟨bl, ol, rfl⟩ := HSL.out.where (by omega)
            obtain ⟨bk, ok, rfl⟩ := HSK.out.where (by omega)
            have hd1 := (HSL.out.nix k7).cellInt (i := j) hlt
            have hd2 := (HSK.out.nix k7).cellInt (i := j) (by omega)
            have hi1 : (j : Int) < (zl.length : Int) := by omega
            have hi2 : (j : Int) < (zk.length : Int) := by omega
            have hnext := allR_succ zl zk j
            obtain ⟨S, hS⟩ := allR_le zl zk (j + 1) (zl.length - (j + 1))
            rw [show j + 1 + (zl.length - (j + 1)) = zl.length by omega] at hS
            obtain ⟨n, hn⟩ : ∃ n, zl.getD j 0 = n := ⟨_, rfl⟩
            obtain ⟨k, hk⟩ : ∃ k, zk.getD j 0 = k := ⟨_, rfl⟩
            have hpk := HPK.out
            rw [hS, hnext, hn, hk] at hpk
            obtain ⟨x1, x2, x3⟩ := take_back hpk
            rw [hn] at hd1 hnext
            rw [hk] at hd2 hnext
            rw [← List.length_append, ← hnext] at x2
            have HT := riceTake_any w.heap.size q u B (allR zl zk j).length 0 k w7.drew t7 hB8
            unfold RiceTakePost at HT
            rw [x1, x2, x3] at HT
            have HT := Lib.hid HT
            have HIN := Lib.hid hn
            have HIK := Lib.hid hk
            have c0 : (n != n) = false := by simp
            clear hnext hS hpk x1 x2 x3 hn hk t7
            go_wp2_with fail
            go_region_held3 (fun w' => w'.cell? ⟨bl, ol + j, none⟩ = some (.int .i64 n) ∧ w'.cell? ⟨bk, ok + j, none⟩ = some (.int .i64 k))
              (first | go_keep | (exact HQ8.out))
              (first
                | (go_at_call 28; refine HT.out.mono ?_; rintro e w8 ⟨rfl, t8, k8⟩; have K8 := Lib.hid (nix_put k7.drew k8 (fun i hi => by rw [hi]; omega)); have HQ8 := Lib.hid (And.intro ((HSL.out.nix K8.out).cellInt (i := j) hlt) ((HSK.out.nix K8.out).cellInt (i := j) (by omega))); rw [HIN.out, HIK.out] at HQ8; have T8 := Lib.hid t8; clear t8 k8))
            go_wp2_with fail
            refine ⟨⟨rfl, rfl, rfl, rfl, rfl, rfl, rfl, j + 1, hlt, rfl, K8.out, T8.out⟩, ?_⟩
            simp [intOf]
            omega
          · obtain rfl : j = zl.length := by omega
            have hft : decide (zl.length < zl.length) = false := by simp
            have HAt := Lib.hid (at_any w.heap.size q u B _ 0 w7 t7)
            have HFl := Lib.hid (fail_any w.heap.size q u B _ 0 w7 t7)
            have c0 : (((allR zl zk zl.length).length : Int) == ((allR zl zk zl.length).length : Int)) = true := by simp
            clear t7 hlt
            go_wp2_with (first | (go_at_call 29; refine HAt.out.mono ?_; rintro e w' ⟨rfl, rfl⟩) | (go_at_call 30; refine HFl.out.mono ?_; rintro e w' ⟨rfl, rfl⟩))
            go_ret
            exact ⟨rfl, k7⟩
  · by_cases hl1 : 20 < zl.length
    · have f1 : decide ((20 : Int) < (zl.length : Int)) = true := by simp; omega
      clear hl
      go_enter Try.func5, Try.ntmps5
      go_wp2_with fail
      refine HA.out.mono ?_
      rintro e w1 ⟨rfl, k1⟩
      go_wp2_with fail
      go_ret
      exact ⟨rfl, k1⟩
    · have f1 : decide ((20 : Int) < (zl.length : Int)) = false := by simp; omega
      have f2 : decide (zk.length < zl.length) = true := by simp; omega
      have f4 : zk.length < zl.length := by omega
      clear hl
      go_enter Try.func5, Try.ntmps5
      go_wp2_with fail
      refine HA.out.mono ?_
      rintro e w1 ⟨rfl, k1⟩
      go_wp2_with fail
      go_ret
      exact ⟨rfl, k1⟩
end Go.Proofs.Ytlhplgeohffjeaa
