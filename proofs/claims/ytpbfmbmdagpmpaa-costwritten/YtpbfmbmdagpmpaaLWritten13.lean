/- The walk of CostWritten. -/
import Derived.Test.YtpbfmbmdagpmpaaAwake13
import Derived.Test.YtpbfmbmdagpmpaaCostPerm
import Derived.Test.YtpbfmbmdagpmpaaArgs
import Derived.Test.YtpbfmbmdagpmpaaRicePut
namespace Go.Proofs.Ytpbfmbmdagpmpaa
open Go.RowKit Bx

/-- The cell of a slice's number of any kind, in any world that kept it. -/
theorem cell_kind13 {w : World} {ao : Option Addr} {cap : Nat} {k : IntKind} {zs : List Int} {m : Nat} (hs : Sl w (.slice ao m cap) (zs.map (Value.int k))) (i : Nat) (hi : i < zs.length) : ∃ b off, ao = some ⟨b, off, none⟩ ∧ ∀ w', Kept Nix w w' → w'.cell? ⟨b, off + i, none⟩ = some (.int k (zs.getD i 0)) := by
  obtain ⟨ao', cap', e, _, _, hp⟩ := hs.ints
  simp only [Value.slice.injEq] at e
  obtain ⟨rfl, -, -⟩ := e
  obtain ⟨b, off, e1, hb, hc⟩ := hp (by omega)
  exact ⟨b, off, e1, fun w' hk' => (World.cell?_of_block (hk'.block _ hb id)).trans (hc i hi)⟩

/-- The numbers that are written: what is left by 151. -/
def small (x : List Int) : List Int := x.map (fun n => n.tmod 151)

theorem small_length (x : List Int) : (small x).length = x.length := by simp [small]
theorem small_get (x : List Int) (i : Nat) (h : i < x.length) : (small x).getD i 0 = (x.getD i 0).tmod 151 := by simp [small, List.getD, h]

theorem tmod_bd (n : Int) : -150 ≤ n.tmod 151 ∧ n.tmod 151 ≤ 150 := by
  rw [Int.tmod_eq_emod]
  split <;> omega

theorem small_near (x : List Int) : nrs (small x) = true := by
  apply List.all_eq_true.2
  intro n hn
  obtain ⟨m, -, rfl⟩ := List.mem_map.1 hn
  have := tmod_bd m
  simp [nr]
  omega

theorem small_high (x : List Int) (i : Nat) (h : i < x.length) (k : Nat) : fd ((small x).getD i 0) / 2 ^ k ≤ 65535 := by
  rw [small_get x i h]
  have := tmod_bd (x.getD i 0)
  have h1 : fd ((x.getD i 0).tmod 151) ≤ 300 := by unfold fd; split <;> omega
  have := Nat.div_le_self (fd ((x.getD i 0).tmod 151)) (2 ^ k)
  omega

def WtnInv (v : Value) (k : Int) (l b p K : Nat) (Y : List Int) (w : World) (a : Act) (w' : World) : Prop :=
  a.defers = [] ∧ a.tmps.size = 52 ∧ a.tmps[0]? = some v ∧ a.tmps[1]? = some (.int .u8 k) ∧ a.tmps[5]? = some (.bool true) ∧ a.tmps[6]? = some (.pointer (some ⟨p, 0, none⟩)) ∧ ∃ i : Nat, i ≤ l ∧ a.tmps[8]? = some (.int .i64 (i : Int)) ∧ ∃ u, a.tmps[7]? = some u ∧ w'.ownsRow b 3 1 u i (ivs (Y.take i)) ∧
    ∃ v' N, Wr b w' p v' N (sN (Y.take i) K) (pad (sN (Y.take i) K)) ∧ Disj (Own u) (Only p v') ∧ Kept Nix w w'

theorem wtn_nums {k : Int} (hk : (Lit.int .u8 k).wf = true) : ∃ K : Nat, K ≤ 30 ∧ k.tmod 31 = (K : Int) ∧ wrap64 (K : Int) = (K : Int) ∧ kk (K : Int) = K := by
  obtain ⟨p, rfl, hp⟩ := nat_u8 hk
  refine ⟨p % 31, by omega, ?_, by rw [w64_in _ (by omega)], by unfold kk; omega⟩
  rw [Int.tmod_eq_emod_of_nonneg (by omega)]; omega

theorem wtn_step (i l : Nat) (hi : i < l) (hl : l ≤ 50) : wrap64 ((i : Int) + 1) = ((i + 1 : Nat) : Int) ∧ (i : Int) < (l : Int) ∧ i + 1 ≤ maxLen ∧ (i + 1) * 8 ≤ 140737488355328 := by
  refine ⟨by rw [w64_in _ (by omega)]; omega, by omega, by simp only [maxLen]; omega, by omega⟩

/-- A slice has grown beside a writer. -/
theorem grown_wr {b p N c r : Nat} {w w2 : World} {u u2 v : Value} (h : Wr b w p v N c r) (hd : Disj (Own u) (Only p v)) (hg : w.grownBy w2 u.ownBlock) (hn : u2.ownBlock = u.ownBlock ∨ u2.ownBlock = some w.heap.size) : Wr b w2 p v N c r ∧ Disj (Own u2) (Only p v) := by
  refine ⟨h.apart (S := Own u) ((Kept.refl _ w).grown hg (fun k hk => .inl hk)) hd.symm, fun k hk hp => ?_⟩
  have hf := (h.foot k hp).2
  unfold Own at hk
  rcases hn with e | e
  · rw [e] at hk
    exact hd k hk hp
  · rw [e] at hk
    simp only [Option.some.injEq] at hk
    omega

set_option maxRecDepth 10000 in
set_option maxHeartbeats 4000000 in
theorem walk_CostWritten (w : World) (v : Value) (x : List Int) (hx : Sl w v (x.map (Value.int .i16))) (hw : ∀ n ∈ x, (Lit.int .i16 n).wf = true) (k : Int) (hk : (Lit.int .u8 k).wf = true) :
    Calls Try.prog 6 #[v, .int .u8 k] w fun e w' => e = .returned (.bool true) ∧ Kept Nix w w' := by
  obtain ⟨K, r1, r2, r3, r4⟩ := wtn_nums hk
  obtain ⟨xo, xc, rfl, -⟩ := hx.ints
  have HX := Lib.hid hx
  have HB := Lib.hid (fun i (hi : i < x.length) => bounds_i16 (hw _ (show x.getD i 0 ∈ x by simp [List.getD, hi])))
  have HA := Lib.hid (awake_any w)
  have R1 := Lib.hid r1
  have R4 := Lib.hid r4
  clear hx hw hk r1 r4
  go_enter Try.func6, Try.ntmps6
  go_upto_region 2 with (go_at_call 9; refine HA.out.mono ?_; rintro e w1 ⟨rfl, k1⟩; have K1 := Lib.hid k1; clear k1)
  clear HA
  by_cases hlen : 50 < x.length
  · have hd : decide ((50 : Int) < (x.length : Int)) = true := decide_eq_true (by omega)
    clear hlen
    go_wp2
    go_ret
    exact ⟨rfl, K1.out⟩
  have hd : decide ((50 : Int) < (x.length : Int)) = false := decide_eq_false (by omega)
  have HL := Lib.hid (show x.length ≤ 50 by omega)
  clear hlen
  have NW := Lib.hid (new_any w1.heap.size w1 (Nat.le_refl _))
  go_wp2_with (go_at_call 19; refine NW.out.mono ?_; rintro e w2 ⟨p, rfl, hp, t2, k2⟩; have T2 := Lib.hid t2; have K2 := Lib.hid k2; clear hp t2 k2 NW)
  clear hd
  have HLE := Lib.hid (small_length x)
  have HG := Lib.hid (fun i hi => small_get x i hi)
  have HH := Lib.hid (fun i hi => small_high x i hi K)
  have HNR := Lib.hid (small_near x)
  have HNI := Lib.hid (fun i (hi : i < x.length) => nrs_get HNR.out i (by rw [HLE.out]; exact hi))
  have HSM := Lib.hid (fun i => Nat.lt_of_le_of_lt (Nat.le_trans (sN_take_le (small x) i K) (sN_high HNR.out K)) (show (small x).length * (17179869184 + K) < 1099511000000 by
    have h1 : (small x).length * (17179869184 + K) ≤ 50 * 17179869214 := Nat.mul_le_mul (by rw [HLE.out]; exact HL.out) (by have := R1.out; omega)
    omega))
  generalize small x = Y at *
  have HOWN := Lib.hid (World.ownsRow_nil w2 w1.heap.size 3 1)
  refine wp_loop (WtnInv (.slice xo x.length xc) k x.length w1.heap.size p K Y w1) (fun a _ => x.length - (intOf (a.tmps.getD 8 undef)).toNat) ?_ ?_
  · refine ⟨rfl, rfl, rfl, rfl, rfl, rfl, 0, Nat.zero_le _, rfl, _, rfl, HOWN.out, .slice none 0 0, 0, by simpa [sN, pad] using T2.out, fun k h => by simp [Own, Value.ownBlock] at h, K2.out⟩
  · clear HOWN T2 K2
    rintro ⟨tm, df⟩ w3 ⟨rfl, hs, e0, e1, e5, e6, i, hi, e8, u, e7, ho, v3, N, t3, d3, hk⟩
    simp only at hs e0 e1 e5 e6 e8 e7
    obtain ⟨f, hf, hg⟩ := fr_open hs
    have g0 := hg _ _ e0
    have g1 := hg _ _ e1
    have g5 := hg _ _ e5
    have g6 := hg _ _ e6
    have g8 := hg _ _ e8
    have g7 := hg _ _ e7
    simp only [List.range, List.range.loop, List.map] at hf
    rw [g0, g1, g5, g6, g8, g7] at hf
    clear g0 g1 g5 g6 g8 g7 hg hs e0 e1 e5 e6 e8 e7
    subst hf
    have HO := Lib.hid ho
    have HK := Lib.hid hk
    have T3 := Lib.hid t3
    have D3 := Lib.hid d3
    clear ho hk t3 d3
    by_cases hlt : i < x.length
    · obtain ⟨b1, o1, rfl, hc1⟩ := cell_kind13 HX.out i hlt
      have x1 := hc1 w3 (nix_trans K1.out HK.out)
      have q2 := HB.out i hlt
      have h1 : wrap64 (x.getD i 0) = x.getD i 0 := w64_in _ (by omega)
      have h2 : (x.getD i 0).tmod 151 = Y.getD i 0 := (HG.out i hlt).symm
      obtain ⟨m1, m2, m3, m4⟩ := wtn_step i x.length hlt HL.out
      have HST := Lib.hid (take_get (L := Y) (i := i) (by rw [HLE.out]; exact hlt))
      have HSN := Lib.hid (sN_step (L := Y) (i := i) (by rw [HLE.out]; exact hlt) K)
      have HRI := Lib.hid (HNI.out i hlt)
      have HHI := Lib.hid (HH.out i hlt)
      have HCC := Lib.hid (HSM.out i)
      have M1 := Lib.hid m1
      have M3 := Lib.hid m3
      have M4 := Lib.hid m4
      have HI := Lib.hid hlt
      have hdd : decide (i < x.length) = true := decide_eq_true hlt
      clear hc1 q2 hlt hi m1 m3 m4
      generalize Y.getD i 0 = y at *
      generalize x.getD i 0 = xi at *
      have O5 := Lib.hid (HO.out.alloc (.cells #[.int .i64 y] 3))
      have HBS := Lib.hid (show w1.heap.size ≤ (w3.alloc (.cells #[.int .i64 y] 3)).heap.size from (HK.out.alloc _).size)
      have T5 := Lib.hid (T3.out.apart (S := Nix) ((Kept.refl Nix w3).alloc (.cells #[.int .i64 y] 3)) (disj_nix _))
      go_upto_region 13 with (
        refine wpList_app _ rfl _ _ 22 rfl w1.heap.size 3 (.int .i64 0) 1 8 Try.underlying22 info_int rfl (by decide) _ _ _ rfl O5.out _ 1 1 [.int .i64 y] rfl (src_one w3 _ _ rfl) M3.out M4.out HBS.out ?_
        intro v6 w6 o6 g6 n6; have k6 : Kept Nix w1 w6 := (HK.out.alloc _).grown g6 (fun kk hkk => .inr (O5.out.lt kk hkk).1); have K6 := Lib.hid k6; have O6 := Lib.hid o6; have T6 := Lib.hid (grown_wr T5.out D3.out g6 n6); clear k6 o6 g6 n6)
      have RP := Lib.hid (ricePut_any w1.heap.size p v3 N (sN (Y.take i) K) y (K : Int) w6 T6.out.1 HCC.out K6.out.size)
      clear O5 HBS T5 T3 D3 HO HK
      go_wp2_with (
        go_at_call 20
        refine RP.out.mono ?_
        rintro e w7 hp
        rcases hp with ⟨h, -, -⟩ | ⟨-, h, -, -⟩ | ⟨-, -, rfl, hp⟩
        · rw [HRI.out] at h; cases h
        · exfalso; rw [R4.out] at h; have := HHI.out; omega
        have PP := Lib.hid hp
        clear hp RP)
      rw [M1.out]
      obtain ⟨v7, t7, k7, g7⟩ := PP.out
      have hsz : sN (Y.take i) K + rlen y (K : Int) = sN (Y.take (i + 1)) K := by rw [HSN.out, rlen, R4.out]
      rw [hsz] at t7
      obtain ⟨o7, d7⟩ := owns_beside O6.out k7 T6.out.2 g7
      refine ⟨⟨rfl, rfl, rfl, rfl, rfl, rfl, i + 1, HI.out, rfl, v6, rfl, ?_, v7, _, t7, d7, nix_put K6.out k7 (fun j hj => (T6.out.1.foot j hj).1)⟩, nearer HI.out rfl⟩
      rw [HST.out, ivs_append]
      exact o7
    · have hie : i = x.length := by omega
      subst hie
      have hdd : decide (x.length < x.length) = false := decide_eq_false hlt
      have ho := HO.out
      have t3 := T3.out
      rw [List.take_of_length_le (by rw [HLE.out]; exact Nat.le_refl _)] at ho t3
      have BI := cbits_any _ Y (K : Int) w3 (sl_of_owns ho) (by rw [HLE.out]; have := HL.out; omega)
      rw [show cbits Y (K : Int) = (sN Y K : Int) by unfold cbits; rw [if_pos HNR.out, R4.out]] at BI
      have BI := Lib.hid BI
      have LE := Lib.hid (len_any _ p _ _ _ _ w3 t3)
      clear hlt hi ho t3 T3 HO D3
      generalize sN Y K = c at *
      have hcc : ((c : Int) == (c : Int)) = true := by simp
      go_wp2_with (first
        | (go_at_call 10; refine BI.out.mono ?_; rintro e w4 ⟨rfl, rfl⟩; clear BI)
        | (go_at_call 21; refine LE.out.mono ?_; rintro e w4 ⟨rfl, rfl⟩; clear LE))
      go_ret
      exact ⟨rfl, nix_trans K1.out HK.out⟩

end Go.Proofs.Ytpbfmbmdagpmpaa
