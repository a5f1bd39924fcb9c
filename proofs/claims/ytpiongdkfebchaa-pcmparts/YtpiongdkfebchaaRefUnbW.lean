/- The reference of layer 6: Unbytes, its walk. -/
import Derived.Test.YtpiongdkfebchaaRefUnbE
namespace Go.Proofs.Ytpiongdkfebchaa
open Go.RowKit Bx

theorem runb_start (w : World) : ∀ w', w' = (w.alloc (.cells #[.int .i64 0, .int .i64 0, .slice none 0 0] 24)).alloc (.cells #[.int .i64 0, .int .i64 0, .slice none 0 0] 24) →
    Kept Nix w w' ∧ w'.heap[w.heap.size]? = some (.cells z3 24 (0, 0)) ∧ w'.heap[w.heap.size + 1]? = some (.cells z3 24 (0, 0)) ∧ w'.heap.size = w.heap.size + 2 := by
  rintro w' rfl
  exact ⟨((Kept.refl _ w).alloc _).alloc _, (Below.heap_alloc _ _ _ (by simp)).trans (heap_alloc_new _ _), heap_new (by simp), by simp⟩

set_option maxRecDepth 10000 in
set_option maxHeartbeats 2000000 in
theorem runb_kind (vb : Value) (B : List Nat) (r d c : Int) (w : World) (hs : Sl w vb (u8s B)) (hk : kindE r d c ≠ 0) :
    Calls Try.prog 20 #[vb, .int .i64 r, .int .i64 d, .int .i64 c] w fun e w' => e = .returned (.tuple #[.agg z3, .int .i64 (kindE r d c)]) ∧ Kept Nix w w' := by
  have HK := rwrong_any r d c
  have ht : (kindE r d c != 0) = true := bne_iff_ne.2 hk
  obtain ⟨ao, cap, rfl⟩ := hs.shape
  clear hs hk
  generalize kindE r d c = e0 at *
  obtain ⟨k0, b8, b10, hsz⟩ := runb_start w _ rfl
  have K0 := Lib.hid k0
  have B8 := Lib.hid b8
  have B10 := Lib.hid b10
  clear k0 b8 b10 hsz
  go_enter Try.func20, Try.ntmps20
  go_upto_region 2 with fail
  generalize (w.alloc (.cells #[.int .i64 0, .int .i64 0, .slice none 0 0] 24)).alloc (.cells #[.int .i64 0, .int .i64 0, .slice none 0 0] 24) = w0 at *
  have c0 : w0.cell? ⟨w.heap.size + 1, 0, none⟩ = some (.int .i64 0) := by rw [cell_of B10.out]; rfl
  have c1 : w0.cell? ⟨w.heap.size + 1, 1, none⟩ = some (.int .i64 0) := by rw [cell_of B10.out]; rfl
  have c2 : w0.cell? ⟨w.heap.size + 1, 2, none⟩ = some (.slice none 0 0) := by rw [cell_of B10.out]; rfl
  go_wp2_with (first
    | (go_at_call 31; refine (HK _).mono ?_; rintro e w' ⟨rfl, rfl⟩)
    | (refine wpList_store_row rfl 24 _ _ rfl _ _ rfl rfl 24 _ B8.out size_sound rfl (one_sound _ _ _ _ _) ?_))
  exact bodyPost_ret (results_sound1 rfl _ _ w.heap.size _ e0 rfl (heap_row _ B8.out) rfl rfl) rfl ⟨rfl, K0.out.setRow (.inr (Nat.le_refl _)) _⟩

theorem made_nil (n : Nat) : madeCells #[Value.slice none 0 0] n = (List.replicate n (Value.slice none 0 0)).toArray := by
  apply Array.ext
  · simp [size_madeCells]
  · intro i h1 h2
    simp [madeCells, Nat.mod_one]

theorem make_rows (n : Nat) (h : n ≤ 8) (w : World) : (Instr.makeSlice 22 (.int .i64 (n : Int)) (.int .i64 (n : Int))).run Try.prog w = .ok (.slice (some ⟨w.heap.size, 0, none⟩) n n) (w.alloc (.cells (List.replicate n (Value.slice none 0 0)).toArray 45)) := by
  rw [← made_nil]
  exact run_make_row' (P := Try.prog) 22 45 (.slice none 0 0) 24 Try.underlying22 info_ints rfl .i64 .i64 n (by omega) (by omega) w

theorem rows_start (w : World) (r d : Int) (C : Nat) (f : Nat → Int) (base g : Nat) (hg : w.heap.size = g) : ∀ w', w' = (w.alloc (.cells (Array.replicate C (Value.slice none 0 0)) 45)).alloc (.cells #[.int .i64 r, .int .i64 d, .slice (some ⟨g, 0, none⟩) C C] 24) →
    Kept Nix w w' ∧ w'.heap[g + 1]? = some (.cells #[.int .i64 r, .int .i64 d, .slice (some ⟨g, 0, none⟩) C C] 24 (0, 0)) ∧ Stack base g w' (List.replicate C (.slice none 0 0)) ((List.range C).map (col f C 0)) := by
  subst hg
  rintro w' rfl
  refine ⟨((Kept.refl _ w).alloc _).alloc _, heap_new (by simp), (Below.heap_alloc _ _ _ (by simp)).trans ((heap_alloc_new _ _).trans (by simp)), by simp, fun c hc => ?_, fun a b ha hb hab k hk => ?_⟩
  · simp only [List.length_map, List.length_range] at hc
    have e1 : (List.replicate C (Value.slice none 0 0)).getD c undef = .slice none 0 0 := by simp [List.getD, hc]
    have e2 : ((List.range C).map (col f C 0)).getD c [] = [] := by simp [List.getD, hc, col_zero]
    rw [e1, e2]
    exact World.ownsRow_nil _ _ _ _
  · simp only [List.length_map, List.length_range] at ha
    have e1 : (List.replicate C (Value.slice none 0 0)).getD a undef = .slice none 0 0 := by simp [List.getD, ha]
    rw [e1] at hk
    cases hk

theorem cols_set (f : Nat → Int) (C t : Nat) (hC : 0 < C) : ((List.range C).map (col f C t)).set (t % C) (((List.range C).map (col f C t)).getD (t % C) [] ++ [f t]) = (List.range C).map (col f C (t + 1)) := by
  have hc : t % C < C := Nat.mod_lt _ hC
  apply List.ext_getElem
  · simp
  · intro i h1 h2
    simp only [List.length_set, List.length_map, List.length_range] at h1
    by_cases hi : i = t % C
    · subst hi
      simp [List.getD, hc, col_same]
    · rw [List.getElem_set_ne (fun e => hi e.symm)]
      simp [col_other f C t i hi]

theorem chunk_get (B : List Nat) (e t k : Nat) (h : k < e) : (chunk B e t).getD k 0 = B.getD (e * t + k) 0 := by
  unfold chunk
  simp [List.getD, h, List.getElem?_drop]

theorem le_step (l : List Nat) (k : Nat) (h : k < l.length) : le (l.drop k) = 256 * le (l.drop (k + 1)) + l.getD k 0 := by
  have e1 : l.drop k = l.getD k 0 :: l.drop (k + 1) := by
    rw [List.drop_eq_getElem_cons h]
    simp [List.getD, h]
  rw [e1, le, Nat.add_comm]

theorem le_small (l : List Nat) (k : Nat) (h : l.length ≤ 4) (hb : ∀ b ∈ l, b < 256) : le (l.drop k) < 4294967296 := by
  have h1 := le_lt (l.drop k) (fun b hb' => hb b (List.mem_of_mem_drop hb'))
  have h2 : 256 ^ (l.drop k).length ≤ 256 ^ 4 := Nat.pow_le_pow_right (by omega) (by rw [List.length_drop]; omega)
  exact Nat.lt_of_lt_of_le h1 h2

theorem chunk_mem (B : List Nat) (e t : Nat) (h : ∀ b ∈ B, b < 256) : ∀ b ∈ chunk B e t, b < 256 := fun b hb => h b (List.mem_of_mem_drop (List.mem_of_mem_take hb))

theorem chunk_room {B : List Nat} {e C t : Nat} (_ : 1 ≤ e) (hm : B.length % (e * C) = 0) (hlt : e * t < B.length) : ∃ N, B.length = e * N ∧ t < N ∧ (chunk B e t).length = e ∧ e * t + e ≤ B.length := by
  obtain ⟨q, hq⟩ := Nat.dvd_of_mod_eq_zero hm
  rw [Nat.mul_assoc] at hq
  have ht : t < C * q := by
    rw [hq] at hlt
    exact Nat.lt_of_mul_lt_mul_left hlt
  refine ⟨C * q, hq, ht, chunk_len B e _ t hq ht, ?_⟩
  rw [hq, ← Nat.mul_succ]
  exact Nat.mul_le_mul_left e ht

theorem inner_nums {a k e n z x y : Nat} (hk : k + 1 ≤ e) (he : e ≤ 4) (hroom : a + e ≤ n) (hn : n ≤ 300) (hst : y = 256 * z + x) (hsm : y < 4294967296) :
    a + k < n ∧ wrap64 ((a : Int) + (k : Int)) = ((a + k : Nat) : Int) ∧ wrap64 (256 * (z : Int)) = 256 * (z : Int) ∧ wrap64 (256 * (z : Int) + (x : Int)) = (y : Int) ∧ (((k + 1 : Nat) : Int) - 1) = (k : Int) ∧ wrap64 ((k : Int) - 1) = (k : Int) - 1 ∧ wrap64 (x : Int) = (x : Int) ∧ k ≤ e := by
  refine ⟨by omega, ?_, w64_in _ (by omega), ?_, by omega, w64_in _ (by omega), w64_in _ (by omega), by omega⟩
  · rw [w64_in _ (by omega)]; omega
  · rw [w64_in _ (by omega)]; omega

theorem tail_nums {a e n : Nat} (he1 : 1 ≤ e) (he : e ≤ 4) (hroom : a + e ≤ n) (hn : n ≤ 300) :
    a + (e - 1) < n ∧ wrap64 (8 * (e : Int)) = ((8 * e : Nat) : Int) ∧ wrap64 ((a : Int) + (e : Int)) = (a : Int) + (e : Int) ∧ wrap64 ((a : Int) + (e : Int) - 1) = ((a + (e - 1) : Nat) : Int) ∧ 8 * e ≤ 61 ∧ e - 1 < e := by
  refine ⟨by omega, ?_, w64_in _ (by omega), ?_, by omega, by omega⟩
  · rw [w64_in _ (by omega)]; omega
  · rw [w64_in _ (by omega)]; omega

theorem sign_num {y s P : Int} (h : s = y - P) (hb : -4294967296 ≤ s ∧ s < 4294967296) : wrap64 (y - P) = s := by
  rw [← h]
  exact w64_in _ (by omega)

theorem dec_128t {x : Nat} (h : 128 ≤ x) : decide ((128 : Int) ≤ (x : Int)) = true := decide_eq_true (by omega)
theorem dec_128 {x : Nat} (h : ¬ 128 ≤ x) : decide ((128 : Int) ≤ (x : Int)) = false := decide_eq_false (by omega)

theorem unbE_six {B : List Nat} {r d : Int} {C N t : Nat} (hk : kindE r d (C : Int) = 0) (hm : B.length % (eachN d * C) = 0) (hN : B.length = eachN d * N) (ht : t < N) (hi : inD (snum (chunk B (eachN d) t)) d = false) : unbE B r d (C : Int) = 6 := by
  unfold unbE
  rw [if_pos hk, Int.toNat_natCast, if_pos hm, if_neg]
  intro hu
  unfold unbR at hu
  rw [List.all_eq_true] at hu
  have := hu t (List.mem_range.2 (by rw [hN, Nat.mul_div_cancel_left _ (eachN_lo d)]; exact ht))
  rw [hi] at this
  cases this

theorem colrow_len (f : Nat → Int) (C t : Nat) (hC : 1 ≤ C) : (((List.range C).map (col f C t)).getD (t % C) []).length ≤ t := by
  have h : t % C < C := Nat.mod_lt _ hC
  have e : ((List.range C).map (col f C t)).getD (t % C) [] = col f C t (t % C) := by simp [List.getD, h]
  rw [e]
  exact col_len f C t _

theorem le_of_times {e t n : Nat} (he : 1 ≤ e) (h : e * t = n) : t ≤ n := by
  rw [← h]
  exact Nat.le_mul_of_pos_left t he

theorem next_num {e t a n : Nat} (h : e * t = a) (he : 1 ≤ e) (hr : a + e ≤ n) (hn : n ≤ 300) : ∃ m : Nat, e * (t + 1) = m ∧ wrap64 ((a : Int) + (e : Int)) = (m : Int) ∧ m ≤ n ∧ a < m := by
  refine ⟨a + e, by rw [Nat.mul_succ, h], ?_, hr, by omega⟩
  rw [w64_in _ (by omega)]
  omega

theorem less_left {m a n : Nat} (h : a < m) (hn : a < n) : n - ((m : Int)).toNat < n - ((a : Int)).toNat := by
  rw [Int.toNat_natCast, Int.toNat_natCast]
  omega

theorem cols_next {B : List Nat} {e C t : Nat} {s : Int} (hs : snum (chunk B e t) = s) (hC : 0 < C) : ((List.range C).map (col (fun k => snum (chunk B e k)) C t)).set (t % C) (((List.range C).map (col (fun k => snum (chunk B e k)) C t)).getD (t % C) [] ++ [s]) = (List.range C).map (col (fun k => snum (chunk B e k)) C (t + 1)) := by
  rw [← hs]
  exact cols_set _ C t hC

theorem in_next {B : List Nat} {e t : Nat} {d : Int} (h : ∀ k, k < t → inD (snum (chunk B e k)) d = true) (h1 : inD (snum (chunk B e t)) d = true) : ∀ k, k < t + 1 → inD (snum (chunk B e k)) d = true := by
  intro k hk
  by_cases e : k = t
  · subst e; exact h1
  · exact h k (by omega)

def RUIn (vb : Value) (B : List Nat) (d : Int) (e C t : Nat) (w : World) (p13 : Nat) (w1 : World) (a : Act) (w' : World) : Prop :=
  a.defers = [] ∧ a.tmps.size = 103 ∧ a.tmps[0]? = some vb ∧ a.tmps[2]? = some (.int .i64 d) ∧ a.tmps[3]? = some (.int .i64 (C : Int)) ∧ a.tmps[8]? = some (.pointer (some ⟨w.heap.size, 0, none⟩)) ∧ a.tmps[10]? = some (.pointer (some ⟨w.heap.size + 1, 0, none⟩)) ∧ a.tmps[12]? = some (.int .i64 (e : Int)) ∧ a.tmps[13]? = some (.pointer (some ⟨p13, 0, none⟩)) ∧ a.tmps[14]? = some (.int .i64 ((e * t : Nat) : Int)) ∧
    w' = w1 ∧ ∃ k : Nat, k ≤ e ∧ a.tmps[16]? = some (.int .i64 ((k : Int) - 1)) ∧ a.tmps[15]? = some (.int .i64 ((le ((chunk B e t).drop k) : Nat) : Int))

def RUOut (vb : Value) (B : List Nat) (r d : Int) (e C g : Nat) (w : World) (base : Nat) (p13 : Nat) (a : Act) (w' : World) : Prop :=
  a.defers = [] ∧ a.tmps.size = 103 ∧ a.tmps[0]? = some vb ∧ a.tmps[2]? = some (.int .i64 d) ∧ a.tmps[3]? = some (.int .i64 (C : Int)) ∧ a.tmps[8]? = some (.pointer (some ⟨w.heap.size, 0, none⟩)) ∧ a.tmps[10]? = some (.pointer (some ⟨w.heap.size + 1, 0, none⟩)) ∧ a.tmps[12]? = some (.int .i64 (e : Int)) ∧ a.tmps[13]? = some (.pointer (some ⟨p13, 0, none⟩)) ∧
    ∃ t : Nat, e * t ≤ B.length ∧ a.tmps[14]? = some (.int .i64 ((e * t : Nat) : Int)) ∧ Kept Nix w w' ∧ w'.heap[w.heap.size]? = some (.cells z3 24 (0, 0)) ∧ w'.heap[w.heap.size + 1]? = some (.cells z3 24 (0, 0)) ∧ w'.heap[p13]? = some (.cells #[.int .i64 r, .int .i64 d, .slice (some ⟨g, 0, none⟩) C C] 24 (0, 0)) ∧
      (∃ us, Stack base g w' us ((List.range C).map (col (fun k => snum (chunk B e k)) C t))) ∧ ∀ k, k < t → inD (snum (chunk B e k)) d = true

set_option maxRecDepth 10000 in
set_option maxHeartbeats 4000000 in
theorem runb_good (vb : Value) (B : List Nat) (r d : Int) (C : Nat) (w : World) (hs : Sl w vb (u8s B)) (hB : ∀ b ∈ B, b < 256) (hl : B.length ≤ 300) (hk : kindE r d (C : Int) = 0) :
    Calls Try.prog 20 #[vb, .int .i64 r, .int .i64 d, .int .i64 (C : Int)] w (UnbPost B r d (C : Int) w) := by
  have HKI := rwrong_any r d (C : Int)
  rw [hk] at HKI
  obtain ⟨hC1, hC8, hd4, hd32⟩ := kind_parts hk
  obtain ⟨n1, hn1, hn1a, hn1b, hw1, hMb⟩ := unb_num (n := B.length) (eachN_lo d) (eachN_hi d) hC1 hC8 (by omega)
  have HN1 := Lib.hid hn1
  have HKD := Lib.hid hk
  have HB := Lib.hid hB
  have HL := Lib.hid hl
  have HS := Lib.hid hs
  have HC := Lib.hid (And.intro hC1 hC8)
  obtain ⟨ao, cap, rfl⟩ := hs.shape
  obtain ⟨k0, b8, b10, hsz⟩ := runb_start w _ rfl
  have K0 := Lib.hid k0
  have B8 := Lib.hid b8
  have B10 := Lib.hid b10
  have HSZ := Lib.hid hsz
  clear k0 b8 b10 hsz hs hB hl hk hn1 hC1 hC8 hd4 hd32 hMb
  go_enter Try.func20, Try.ntmps20
  go_upto_region 2 with fail
  generalize (w.alloc (.cells #[.int .i64 0, .int .i64 0, .slice none 0 0] 24)).alloc (.cells #[.int .i64 0, .int .i64 0, .slice none 0 0] 24) = w0 at *
  have c0 : w0.cell? ⟨w.heap.size + 1, 0, none⟩ = some (.int .i64 0) := by rw [cell_of B10.out]; rfl
  have c1 : w0.cell? ⟨w.heap.size + 1, 1, none⟩ = some (.int .i64 0) := by rw [cell_of B10.out]; rfl
  have c2 : w0.cell? ⟨w.heap.size + 1, 2, none⟩ = some (.slice none 0 0) := by rw [cell_of B10.out]; rfl
  have hn0 : ((n1 : Int) == 0) = false := beq_eq_false_iff_ne.2 (by omega)
  by_cases hmod : B.length % n1 = 0
  · have hmz : ((B.length : Int) % (n1 : Int)) = 0 := by omega
    have HMOD := Lib.hid hmod
    clear hmod
    go_upto_region 8 with (first
      | (go_at_call 31; refine (HKI _).mono ?_; rintro e w' ⟨rfl, rfl⟩)
      | (go_at_call 18; refine (reach_any _ _).mono ?_; rintro e w' ⟨rfl, rfl⟩))
    have hmk := make_rows C HC.out.2
    have hszw : w'.heap.size = w.heap.size + 2 := HSZ.out
    go_upto_region 10 with fail
    obtain ⟨kA, a13, aST⟩ := rows_start w' r d C (fun k => snum (chunk B (eachN d) k)) w.heap.size (w.heap.size + 2) HSZ.out _ rfl
    have a8 := kA.heap B8.out id
    have a10 := kA.heap B10.out id
    have kwA := nix_trans K0.out kA
    generalize (w'.alloc (.cells (Array.replicate C (Value.slice none 0 0)) 45)).alloc (.cells #[.int .i64 r, .int .i64 d, .slice (some ⟨w.heap.size + 2, 0, none⟩) C C] 24) = wA at *
    refine wp_loop (RUOut (.slice ao B.length cap) B r d (eachN d) C (w.heap.size + 2) w w.heap.size (w.heap.size + 2 + 1)) (fun a _ => B.length - (intOf (a.tmps.getD 14 undef)).toNat) ?_ ?_
    · exact ⟨rfl, rfl, rfl, rfl, rfl, rfl, rfl, rfl, rfl, 0, Nat.zero_le _, by simp, kwA, a8, a10, a13, ⟨_, aST⟩, fun k hk => absurd hk (Nat.not_lt_zero k)⟩
    · clear kA a8 a10 a13 aST kwA hmk hmz c0 c1 c2 hszw
      rintro ⟨tm, df⟩ w1 ⟨rfl, hs, e0, e2, e3, e8, e10, e12, e13, t, ht, e14, hkp, h8, h10, h13, ⟨us, hst⟩, hin⟩
      simp only at hs e0 e2 e3 e8 e10 e12 e13 e14
      obtain ⟨f, hf, hg⟩ := fr_open hs
      have g0 := hg _ _ e0
      have g2 := hg _ _ e2
      have g3 := hg _ _ e3
      have g8 := hg _ _ e8
      have g10 := hg _ _ e10
      have g12 := hg _ _ e12
      have g13 := hg _ _ e13
      have g14 := hg _ _ e14
      simp only [List.range, List.range.loop, List.map] at hf
      rw [g0, g2, g3, g8, g10, g12, g13, g14] at hf
      clear g0 g2 g3 g8 g10 g12 g13 g14 hg hs e0 e2 e3 e8 e10 e12 e13 e14
      subst hf
      have HKP := Lib.hid hkp
      have H8 := Lib.hid h8
      have H10 := Lib.hid h10
      have H13 := Lib.hid h13
      have HST := Lib.hid hst
      have HIN := Lib.hid hin
      have c0 : w1.cell? ⟨w.heap.size + 1, 0, none⟩ = some (.int .i64 0) := by rw [cell_of h10]; rfl
      have c1 : w1.cell? ⟨w.heap.size + 1, 1, none⟩ = some (.int .i64 0) := by rw [cell_of h10]; rfl
      have c2 : w1.cell? ⟨w.heap.size + 1, 2, none⟩ = some (.slice none 0 0) := by rw [cell_of h10]; rfl
      have x13 : w1.cell? ⟨w.heap.size + 2 + 1, 2, none⟩ = some (.slice (some ⟨w.heap.size + 2, 0, none⟩) C C) := by rw [cell_of h13]; rfl
      have hsl := HS.out.nix hkp
      have HSL := Lib.hid hsl
      clear hkp h8 h10 h13 hst hin hsl
      obtain ⟨at', hat⟩ : ∃ at' : Nat, eachN d * t = at' := ⟨_, rfl⟩
      rw [hat]
      by_cases hlt : at' < B.length
      · have hd : decide (at' < B.length) = true := decide_eq_true hlt
        have HAT := Lib.hid hat
        have HLT := Lib.hid hlt
        clear ht hat hlt
        have he1 := eachN_lo d
        have hew : wrap64 ((eachN d : Int) - 1) = (eachN d : Int) - 1 := w64_in _ (by have := eachN_hi d; omega)
        obtain ⟨N, hN, htN, hcl, hroom⟩ := chunk_room (B := B) (t := t) he1 (HN1.out ▸ HMOD.out) (HAT.out.symm ▸ HLT.out)
        rw [HAT.out] at hroom
        have HROOM := Lib.hid hroom
        have HCL := Lib.hid hcl
        have HNN := Lib.hid (And.intro hN htN)
        have HMEM := Lib.hid (chunk_mem B (eachN d) t HB.out)
        clear hN htN hcl hroom
        obtain ⟨bb, off, cap', hv, _, _, hcell⟩ := HSL.out.cells (Nat.lt_of_le_of_lt (Nat.zero_le _) HLT.out)
        simp only [Value.slice.injEq, true_and] at hv
        obtain ⟨rfl, rfl⟩ := hv
        have HCELL := Lib.hid hcell
        clear hcell
        go_wp2
        rw [hew]
        refine wp_loop (RUIn (.slice (some ⟨bb, off, none⟩) B.length cap) B d (eachN d) C t w (w.heap.size + 2 + 1) w1) (fun a _ => (intOf (a.tmps.getD 16 undef) + 1).toNat) ?_ ?_
        · refine ⟨rfl, rfl, rfl, rfl, rfl, rfl, rfl, rfl, rfl, by rw [HAT.out]; rfl, rfl, eachN d, Nat.le_refl _, rfl, ?_⟩
          rw [List.drop_of_length_le (Nat.le_of_eq HCL.out)]
          rfl
        · clear c0 c1 c2 x13 hd hew
          rintro ⟨tm, df⟩ w2 ⟨rfl, hs, e0, e2, e3, e8, e10, e12, e13, e14, rfl, k, hk, e16, e15⟩
          simp only at hs e0 e2 e3 e8 e10 e12 e13 e14 e16 e15
          obtain ⟨f', hf, hg⟩ := fr_open hs
          have g0 := hg _ _ e0
          have g2 := hg _ _ e2
          have g3 := hg _ _ e3
          have g8 := hg _ _ e8
          have g10 := hg _ _ e10
          have g12 := hg _ _ e12
          have g13 := hg _ _ e13
          have g14 := hg _ _ e14
          have g15 := hg _ _ e15
          have g16 := hg _ _ e16
          simp only [List.range, List.range.loop, List.map] at hf
          rw [g0, g2, g3, g8, g10, g12, g13, g14, g15, g16] at hf
          clear g0 g2 g3 g8 g10 g12 g13 g14 g15 g16 hg hs e0 e2 e3 e8 e10 e12 e13 e14 e15 e16
          subst hf
          rw [HAT.out]
          cases k with
          | succ k =>
            have hst := le_step (chunk B (eachN d) t) k (by rw [HCL.out]; exact hk)
            rw [chunk_get B (eachN d) t k hk, HAT.out] at hst
            have hsm := le_small (chunk B (eachN d) t) k (by rw [HCL.out]; exact eachN_hi d) HMEM.out
            obtain ⟨z, hz⟩ : ∃ z, le ((chunk B (eachN d) t).drop (k + 1)) = z := ⟨_, rfl⟩
            obtain ⟨y, hy⟩ : ∃ y, le ((chunk B (eachN d) t).drop k) = y := ⟨_, rfl⟩
            rw [hy, hz] at hst
            rw [hy] at hsm
            rw [hz]
            obtain ⟨x, hx⟩ : ∃ x, B.getD (at' + k) 0 = x := ⟨_, rfl⟩
            rw [hx] at hst
            obtain ⟨hkm, hsum, hzz, hyy, hk1, hk2, hxx, hke⟩ := inner_nums hk (eachN_hi d) HROOM.out HL.out hst hsm
            have hc := HCELL.out (at' + k) hkm
            rw [hx] at hc
            rw [hk1]
            have HK := Lib.hid hke
            have HY := Lib.hid hy
            clear hk hy hz hx hst hsm hk1 hke
            obtain ⟨m, hm⟩ : ∃ m, at' + k = m := ⟨_, rfl⟩
            rw [hm] at hkm hc hsum
            have hc' : w2.cell? ⟨bb, off + m, none⟩ = some (.int .u8 (x : Int)) := hc
            clear hc hm
            go_wp2
            simp only [hxx, hyy, hk2]
            refine ⟨⟨rfl, rfl, rfl, rfl, rfl, rfl, rfl, rfl, rfl, by rw [HAT.out]; rfl, rfl, k, HK.out, rfl, by rw [HY.out]; rfl⟩, ?_⟩
            show ((k : Int) - 1 + 1).toNat < ((k : Int) + 1).toNat
            omega
          | zero =>
            have hz1 : (((0 : Nat) : Int) - 1) = -1 := rfl
            rw [hz1]
            clear hk hz1
            rw [List.drop_zero]
            obtain ⟨hkm, h8, hs1, hs2, h61, hee⟩ := tail_nums he1 (eachN_hi d) HROOM.out HL.out
            have hc := HCELL.out (at' + (eachN d - 1)) hkm
            have hgx := chunk_get B (eachN d) t (eachN d - 1) hee
            rw [HAT.out] at hgx
            have hsn : snum (chunk B (eachN d) t) = (le (chunk B (eachN d) t) : Int) - (if 128 ≤ B.getD (at' + (eachN d - 1)) 0 then (256 : Int) ^ (eachN d) else 0) := by
              unfold snum
              rw [HCL.out, hgx]
            have hsb := snum_bound (chunk B (eachN d) t) HMEM.out (by rw [HCL.out]; exact eachN_hi d)
            obtain ⟨hp1, _, _⟩ := pow_e (eachN_hi d)
            have RP := rpower_any (8 * eachN d) h61 w2
            rw [hp1] at RP
            obtain ⟨y, hy⟩ : ∃ y, le (chunk B (eachN d) t) = y := ⟨_, rfl⟩
            obtain ⟨s, hsq⟩ : ∃ s, snum (chunk B (eachN d) t) = s := ⟨_, rfl⟩
            obtain ⟨x, hx⟩ : ∃ x, B.getD (at' + (eachN d - 1)) 0 = x := ⟨_, rfl⟩
            obtain ⟨m, hm⟩ : ∃ m, at' + (eachN d - 1) = m := ⟨_, rfl⟩
            obtain ⟨P, hP⟩ : ∃ P : Int, (256 : Int) ^ eachN d = P := ⟨_, rfl⟩
            rw [hsq, hy, hx, hP] at hsn
            rw [hsq] at hsb
            rw [hx, hm] at hc
            rw [hm] at hs2 hkm
            rw [hP] at RP
            rw [hy]
            have HSQ := Lib.hid hsq
            have hc' : w2.cell? ⟨bb, off + m, none⟩ = some (.int .u8 (x : Int)) := hc
            have HSB := Lib.hid hsb
            clear hgx hp1 hy hsq hx hm hP hc h61 hee hsb
            go_upto_if 73 with fail
            refine wp_cut (fun a' w' => w' = w2 ∧ RUMid (.slice (some ⟨bb, off, none⟩) B.length cap) d (eachN d) C at' s w.heap.size (w.heap.size + 1) (w.heap.size + 2 + 1) a') ?_ ?_
            · rintro a' w' ⟨rfl, ha⟩
              apply_assumption
              by_cases hind : inD s d = true
              · refine runb_tail _ r d (eachN d) C t at' s w.heap.size (w.heap.size + 1) (w.heap.size + 2 + 1) (w.heap.size + 2) us _ a' w w' ha hind ⟨he1, eachN_hi d⟩ HC.out HAT.out (Nat.le_trans (Nat.le_of_lt HLT.out) HL.out) HKP.out H8.out H10.out H13.out HST.out (Nat.le_add_right _ _) (by simp) ?_ _ ?_
                · exact Nat.le_trans (colrow_len _ C t HC.out.1) (Nat.le_trans (le_of_times he1 HAT.out) (Nat.le_trans (Nat.le_of_lt HLT.out) HL.out))
                · rintro ⟨tm, df⟩ w3 ⟨rfl, hs, e0, e2, e3, e8, e10, e12, e13, e14, e15⟩ ⟨k3, a8, a10, a13, us3, hst3⟩
                  simp only at hs e0 e2 e3 e8 e10 e12 e13 e14 e15
                  obtain ⟨f3, hf, hg⟩ := fr_open hs
                  have g0 := hg _ _ e0
                  have g2 := hg _ _ e2
                  have g3 := hg _ _ e3
                  have g8 := hg _ _ e8
                  have g10 := hg _ _ e10
                  have g12 := hg _ _ e12
                  have g13 := hg _ _ e13
                  have g14 := hg _ _ e14
                  have g15 := hg _ _ e15
                  simp only [List.range, List.range.loop, List.map] at hf
                  rw [g0, g2, g3, g8, g10, g12, g13, g14, g15] at hf
                  clear g0 g2 g3 g8 g10 g12 g13 g14 g15 hg hs e0 e2 e3 e8 e10 e12 e13 e14 e15
                  subst hf
                  obtain ⟨n', hn', hw', hle', hlt'⟩ := next_num HAT.out he1 HROOM.out HL.out
                  rw [cols_next (HSQ.out) HC.out.1] at hst3
                  have HN' := Lib.hid hn'
                  have HIN3 := Lib.hid (in_next HIN.out (HSQ.out.symm ▸ hind))
                  have K3 := Lib.hid k3
                  have A8 := Lib.hid a8
                  have A10 := Lib.hid a10
                  have A13 := Lib.hid a13
                  have HSS := Lib.hid hst3
                  clear ha hind hn' k3 a8 a10 a13 hst3
                  go_wp2
                  rw [hw']
                  refine ⟨⟨rfl, rfl, rfl, rfl, rfl, rfl, rfl, rfl, rfl, t + 1, by rw [HN'.out]; exact hle', by rw [HN'.out]; rfl, K3.out, A8.out, A10.out, A13.out, ⟨us3, HSS.out⟩, HIN3.out⟩, ?_⟩
                  show B.length - ((n' : Int)).toNat < B.length - ((at' : Int)).toNat
                  exact less_left hlt' HLT.out
              · have hind' : inD s d = false := Bool.eq_false_iff.2 hind
                clear hind
                obtain ⟨tm, df⟩ := a'
                obtain ⟨rfl, hs, e0, e2, e3, e8, e10, e12, e13, e14, e15⟩ := ha
                simp only at hs e0 e2 e3 e8 e10 e12 e13 e14 e15
                obtain ⟨f3, hf, hg⟩ := fr_open hs
                have g0 := hg _ _ e0
                have g2 := hg _ _ e2
                have g3 := hg _ _ e3
                have g8 := hg _ _ e8
                have g10 := hg _ _ e10
                have g12 := hg _ _ e12
                have g13 := hg _ _ e13
                have g14 := hg _ _ e14
                have g15 := hg _ _ e15
                simp only [List.range, List.range.loop, List.map] at hf
                rw [g0, g2, g3, g8, g10, g12, g13, g14, g15] at hf
                clear g0 g2 g3 g8 g10 g12 g13 g14 g15 hg hs e0 e2 e3 e8 e10 e12 e13 e14 e15
                subst hf
                have c0 : w'.cell? ⟨w.heap.size + 1, 0, none⟩ = some (.int .i64 0) := by rw [cell_of H10.out]; rfl
                have c1 : w'.cell? ⟨w.heap.size + 1, 1, none⟩ = some (.int .i64 0) := by rw [cell_of H10.out]; rfl
                have c2 : w'.cell? ⟨w.heap.size + 1, 2, none⟩ = some (.slice none 0 0) := by rw [cell_of H10.out]; rfl
                have RI := rin_any s d w'
                rw [hind'] at RI
                clear hs1 hs2 h8 RP hc' hkm HSB hsn
                go_wp2_with (first
                  | (go_at_call 16; refine RI.mono ?_; rintro e1 w1 ⟨rfl, rfl⟩)
                  | (refine wpList_store_row rfl 24 _ _ rfl _ _ rfl rfl 24 _ H8.out size_sound rfl (one_sound _ _ _ _ _) ?_))
                have hE := unbE_six HKD.out (HN1.out ▸ HMOD.out) HNN.out.1 HNN.out.2 (HSQ.out ▸ hind')
                refine bodyPost_ret (results_sound1 rfl _ _ w.heap.size _ 6 rfl (heap_row _ H8.out) rfl rfl) rfl ⟨0, 0, _, [], by rw [hE], HKP.out.setRow (.inr (Nat.le_refl _)) _, chs_nil _, ?_⟩
                unfold unbSound
                rw [hE]
                rfl
            · intro J K' hJ hK'
              by_cases h128 : 128 ≤ x
              · have hd1 := dec_128t h128
                rw [if_pos h128] at hsn
                have hss : wrap64 ((y : Int) - P) = s := sign_num hsn HSB.out
                clear hsn h128
                simp only [hd1]
                go_wp2_with (go_at_call 32; refine RP.mono ?_; rintro e1 w3 ⟨rfl, hw3⟩; cases hw3)
                refine Met.intro (hJ _ _ ⟨rfl, rfl, rfl, rfl, rfl, rfl, rfl, rfl, rfl, rfl, rfl, ?_⟩)
                rw [hss]
                rfl
              · have hd1 := dec_128 h128
                rw [if_neg h128, Int.sub_zero] at hsn
                have hss : (y : Int) = s := hsn.symm
                clear hsn h128
                simp only [hd1]
                go_wp2
                refine Met.intro (hJ _ _ ⟨rfl, rfl, rfl, rfl, rfl, rfl, rfl, rfl, rfl, rfl, rfl, ?_⟩)
                rw [hss]
                rfl
      · have hd : decide (at' < B.length) = false := decide_eq_false hlt
        have hte : eachN d * t = B.length := Nat.le_antisymm ht (hat ▸ Nat.le_of_not_lt hlt)
        obtain ⟨hE, hLL⟩ := unb_done HKD.out (HN1.out ▸ HMOD.out) HC.out.1 hte HIN.out
        have HE := Lib.hid hE
        have HLL := Lib.hid hLL
        clear hlt ht hat hte hE hLL c0 c1 c2 x13
        go_upto_region 24 with fail
        refine runb_end B r d C (w.heap.size + 2 + 1) (w.heap.size + 2) us _ _ w w1 rfl rfl rfl rfl HKP.out H8.out H13.out HST.out HC.out.2 (by simp) HE.out HLL.out _ (by assumption)
  · have hne : (((B.length : Int) % (n1 : Int)) != 0) = true := bne_iff_ne.2 (by omega)
    have hE : unbE B r d (C : Int) = 3 := by
      unfold unbE
      rw [if_pos HKD.out, Int.toNat_natCast, ← HN1.out, if_neg hmod]
    have HE := Lib.hid hE
    clear hmod hE
    go_wp2_with (first
      | (go_at_call 31; refine (HKI _).mono ?_; rintro e w' ⟨rfl, rfl⟩)
      | (go_at_call 18; refine (reach_any _ _).mono ?_; rintro e w' ⟨rfl, rfl⟩)
      | (refine wpList_store_row rfl 24 _ _ rfl _ _ rfl rfl 24 _ B8.out size_sound rfl (one_sound _ _ _ _ _) ?_))
    refine bodyPost_ret (results_sound1 rfl _ _ w.heap.size _ 3 rfl (heap_row _ B8.out) rfl rfl) rfl ⟨0, 0, _, [], by rw [HE.out], K0.out.setRow (.inr (Nat.le_refl _)) _, chs_nil _, ?_⟩
    unfold unbSound
    rw [HE.out]
    rfl

theorem runb_any (vb : Value) (B : List Nat) (r d c : Int) (w : World) (hs : Sl w vb (u8s B)) (hB : ∀ b ∈ B, b < 256) (hl : B.length ≤ 300) :
    Calls Try.prog 20 #[vb, .int .i64 r, .int .i64 d, .int .i64 c] w (UnbPost B r d c w) := by
  by_cases hk : kindE r d c = 0
  · have hc : 1 ≤ c := by
      unfold kindE at hk
      split at hk <;> omega
    obtain ⟨C, rfl⟩ : ∃ C : Nat, c = (C : Int) := ⟨c.toNat, by omega⟩
    exact runb_good vb B r d C w hs hB hl hk
  · have hE : unbE B r d c = kindE r d c := by unfold unbE; rw [if_neg hk]
    refine (runb_kind vb B r d c w hs hk).mono fun e w' ⟨h1, h2⟩ => ⟨0, 0, .slice none 0 0, [], by rw [hE]; exact h1, h2, chs_nil _, ?_⟩
    unfold unbSound
    rw [hE, if_neg hk]

end Go.Proofs.Ytpiongdkfebchaa
