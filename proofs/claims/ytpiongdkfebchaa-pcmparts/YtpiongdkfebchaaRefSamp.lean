/- The reference of layer 6: Sample. -/
import Derived.Test.YtpiongdkfebchaaRefPcm
import Derived.Test.YtpiongdkfebchaaPcmBytes
namespace Go.Proofs.Ytpiongdkfebchaa
open Go.RowKit Bx

theorem sb_mod (n z : Int) (e : Nat) : sb (n + z * 256 ^ e) e = sb n e := by
  induction e generalizing n with
  | zero => rfl
  | succ e ih =>
    simp only [sb]
    have e1 : n + z * 256 ^ (e + 1) = n + 256 * (z * 256 ^ e) := by rw [Int.pow_succ, ← Int.mul_assoc, Int.mul_comm 256]
    have h1 : (n + z * 256 ^ (e + 1)) % 256 = n % 256 := by rw [e1]; omega
    have h2 : (n + z * 256 ^ (e + 1)) / 256 = n / 256 + z * 256 ^ e := by rw [e1]; omega
    rw [h1, h2, ih]

/-- The number that is put into bytes, not below 0. -/
theorem samp_pos (n : Int) (e : Nat) (h : -(256 : Int) ^ e ≤ n) (h2 : n < 256 ^ e) : ∃ q : Nat, (if n < 0 then n + 256 ^ e else n) = (q : Int) ∧ sb (q : Int) e = sb n e ∧ q < 256 ^ e := by
  have hp : (0 : Int) < 256 ^ e := Int.pow_pos (by omega)
  have hc : ((256 ^ e : Nat) : Int) = (256 : Int) ^ e := by simp
  by_cases hn : n < 0
  · rw [if_pos hn]
    refine ⟨(n + 256 ^ e).toNat, by omega, ?_, by omega⟩
    rw [Int.toNat_of_nonneg (by omega)]
    have := sb_mod n 1 e
    rwa [Int.one_mul] at this
  · rw [if_neg hn]
    exact ⟨n.toNat, by omega, by rw [Int.toNat_of_nonneg (by omega)], by omega⟩

def SampR (e q : Nat) (w : World) (a : Act) (w' : World) : Prop :=
  a.defers = [] ∧ a.tmps.size = 30 ∧ a.tmps[1]? = some (.int .i64 (e : Int)) ∧ ∃ j : Nat, j ≤ e ∧ a.tmps[7]? = some (.int .i64 (j : Int)) ∧ a.tmps[0]? = some (.int .i64 ((q / 256 ^ j : Nat) : Int)) ∧ Kept Nix w w' ∧ ∃ u, a.tmps[6]? = some u ∧ w'.ownsRow w.heap.size 5 1 u j (u8s (sb (q : Int) j))

theorem pow_e {e : Nat} (h : e ≤ 4) : (2 : Int) ^ (8 * e) = 256 ^ e ∧ (256 : Int) ^ e ≤ 4294967296 ∧ 256 ^ e ≤ 4294967296 := by
  refine ⟨(pow_256 e).symm, ?_, ?_⟩
  · have h1 : 256 ^ e ≤ 256 ^ 4 := Nat.pow_le_pow_right (by omega) h
    have h2 : ((256 ^ e : Nat) : Int) = (256 : Int) ^ e := by simp
    omega
  · exact Nat.le_trans (Nat.pow_le_pow_right (by omega) h) (by decide)

set_option maxHeartbeats 2000000 in
theorem rsample_any (n : Int) (e : Nat) (h1 : -(256 : Int) ^ e ≤ n) (h2 : n < 256 ^ e) (he : e ≤ 4) (w : World) :
    Calls Try.prog 36 #[.int .i64 n, .int .i64 (e : Int)] w fun e0 w' => ∃ u, e0 = .returned u ∧ w'.ownsRow w.heap.size 5 1 u e (u8s (sb n e)) ∧ Kept Nix w w' := by
  obtain ⟨q, hq, hsb, hqe⟩ := samp_pos n e h1 h2
  obtain ⟨hp1, hp2, hp3⟩ := pow_e he
  have RP := rpower_any (8 * e) (by omega) w
  rw [hp1] at RP
  have h8 : wrap64 (8 * (e : Int)) = ((8 * e : Nat) : Int) := by rw [w64_in _ (by omega)]; simp
  have hadd : wrap64 (n + 256 ^ e) = n + 256 ^ e := w64_in _ (by omega)
  rw [← hsb]
  have HQE := Lib.hid (show q < 4294967296 by omega)
  clear h1 h2 hsb hqe hp1 hp2 hp3
  obtain ⟨P, hP⟩ : ∃ P : Int, (256 : Int) ^ e = P := ⟨_, rfl⟩
  simp only [hP] at RP hq hadd
  clear hP
  go_enter Try.func36, Try.ntmps36
  by_cases hn : n < 0
  case' pos =>
    rw [if_pos hn] at hq
    have hadd0 := hadd.trans hq
    have hd : decide (n < 0) = true := decide_eq_true hn
    clear hn hq hadd
    go_wp2_with (go_at_call 32; refine RP.mono ?_; rintro e1 w1 ⟨rfl, rfl⟩)
  case' neg =>
    rw [if_neg hn] at hq
    have hd : decide (n < 0) = false := decide_eq_false hn
    have hadd0 : True := trivial
    clear hn hadd
    subst hq
    go_wp2_with (go_at_call 32; refine RP.mono ?_; rintro e1 w1 ⟨rfl, rfl⟩)
  all_goals
    refine wp_loop (SampR e q w1) (fun a _ => e - (intOf (a.tmps.getD 7 undef)).toNat) ?_ ?_
    · exact ⟨rfl, rfl, rfl, 0, Nat.zero_le _, rfl, by simp [hadd0], Kept.refl _ _, _, rfl, World.ownsRow_nil _ _ _ _⟩
    · rintro ⟨tm, df⟩ w2 ⟨rfl, hs, e1, j, hj, e7, e0, hk, u, e6, hou⟩
      simp only at hs e1 e7 e0 e6
      obtain ⟨f, hf, hg⟩ := fr_open hs
      have g1 := hg _ _ e1
      have g7 := hg _ _ e7
      have g0 := hg _ _ e0
      have g6 := hg _ _ e6
      simp only [List.range, List.range.loop, List.map] at hf
      rw [g1, g7, g0, g6] at hf
      clear g1 g7 g0 g6 hg hs e1 e7 e0 e6
      subst hf
      have HK := Lib.hid hk
      have HOU := Lib.hid hou
      by_cases hlt : j < e
      · have hd2 : decide (j < e) = true := decide_eq_true hlt
        obtain ⟨x, hx⟩ : ∃ x : Nat, q / 256 ^ j = x := ⟨_, rfl⟩
        have hxq : x ≤ q := by rw [← hx]; exact Nat.div_le_self _ _
        have hnx : q / 256 ^ (j + 1) = x / 256 := by rw [← hx, Nat.div_div_eq_div_mul, Nat.pow_succ]
        have hsn : sb (q : Int) (j + 1) = sb (q : Int) j ++ [x % 256] := by
          rw [sb_snoc, ← hx]
          congr 2
        rw [hx]
        have hxl : x < 4294967296 := by have := HQE.out; omega
        have HNX := Lib.hid hnx
        have HSN := Lib.hid hsn
        have HJ := Lib.hid hlt
        have HE := Lib.hid he
        have hb1 : j + 1 ≤ maxLen := by unfold maxLen; omega
        have HB1 := Lib.hid hb1
        have hmm : ((x : Int) % 256) = ((x % 256 : Nat) : Int) := by simp
        obtain ⟨y, hy⟩ : ∃ y : Nat, x % 256 = y := ⟨_, rfl⟩
        have hy256 : y < 256 := by omega
        rw [hy] at hmm
        have hyy : ((y : Int) % 256) = (y : Int) := by omega
        have HSRC := Lib.hid (src_one w2 (.int .u8 (y : Int)) 5 rfl)
        have HOU2 := Lib.hid (hou.alloc (.cells #[.int .u8 (y : Int)] 5))
        have HY := Lib.hid hy
        obtain ⟨z, hz⟩ : ∃ z : Nat, x / 256 = z := ⟨_, rfl⟩
        have hqq : (x : Int) / 256 = (z : Int) := by omega
        have hwz : wrap64 (z : Int) = (z : Int) := w64_in _ (by omega)
        have HZ := Lib.hid hz
        clear hz
        have hj4 : j < 4 := by omega
        have HXL := Lib.hid hxl
        clear hk hou hj hlt hnx hsn hx hb1 hy hy256 hxl hxq he
        go_wp2_with (refine wpList_app _ rfl _ _ 33 rfl w1.heap.size 5 (.int .u8 0) 1 1 Try.underlying33 info_u8 rfl (by decide) u j _ rfl HOU2.out (some ⟨w2.heap.size, 0, none⟩) 1 1 [.int .u8 (y : Int)] rfl HSRC.out HB1.out (by omega) (by have := HK.out.size; simp; omega) ?_
                     intro v6 w6 o6 g6 n6; have O6 := Lib.hid o6; have G6 := Lib.hid g6; clear o6 g6 n6)
        rw [hwz]
        refine ⟨⟨rfl, rfl, rfl, j + 1, HJ.out, by simp, ?_, (HK.out.alloc _).grown G6.out (fun k hk => .inr (HOU.out.lt k hk).1), v6, rfl, ?_⟩, ?_⟩
        · rw [HNX.out, HZ.out]; rfl
        · rw [HSN.out, HY.out, ← u8s_snoc]
          exact O6.out
        · have := HJ.out
          simp [intOf]
          omega
      · have hd2 : decide (j < e) = false := decide_eq_false hlt
        have hje : j = e := by omega
        subst hje
        clear hk hou hj hlt
        go_wp2
        go_ret
        exact ⟨_, rfl, HOU.out, HK.out⟩

end Go.Proofs.Ytpiongdkfebchaa
