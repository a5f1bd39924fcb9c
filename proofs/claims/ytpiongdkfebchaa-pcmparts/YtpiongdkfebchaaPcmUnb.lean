/- Package pcm: Unbytes. -/
import Derived.Test.YtpiongdkfebchaaPcmMake
import Derived.Test.YtpiongdkfebchaaCut
import Derived.Laws.ResultCell
namespace Go.Proofs.Ytpiongdkfebchaa
open Go.RowKit Go.Shelf Bx
attribute [local go_sem] Oper.semAt_some

/-- The k-th sample's bytes. -/
def chunk (B : List Nat) (e k : Nat) : List Nat := (B.drop (e * k)).take e

def unbL (B : List Nat) (e C M : Nat) : List (List Int) := gridF C M (fun c i => snum (chunk B e (i * C + c)))

def unbR (B : List Nat) (d : Int) (e N : Nat) : Bool := (List.range N).all (fun k => inD (snum (chunk B e k)) d)

/-- What is wrong with bytes that shall be a sound. -/
def unbE (B : List Nat) (r d c : Int) : Int :=
  if kindE r d c = 0 then if B.length % (eachN d * c.toNat) = 0 then if unbR B d (eachN d) (B.length / eachN d) = true then 0 else 6 else 3 else kindE r d c

def z3 : Array Value := #[.int .i64 0, .int .i64 0, .slice none 0 0]

theorem unb_start (w : World) (vb : Value) (d : Int) : ∀ w', w' = (((w.alloc (.cells #[vb] 33)).alloc (.cells #[.int .i64 d] 3)).alloc (.cells #[.int .i64 0, .int .i64 0, .slice none 0 0] 24)).alloc (.cells #[.int .i64 0] 27) →
    w'.heap[w.heap.size]? = some (.cells #[vb] 33 (0, 0)) ∧ w'.heap[w.heap.size + 1]? = some (.cells #[.int .i64 d] 3 (0, 0)) ∧ w'.heap[w.heap.size + 1 + 1]? = some (.cells z3 24 (0, 0)) ∧ w'.heap[w.heap.size + 1 + 1 + 1]? = some (.cells #[.int .i64 0] 27 (0, 0)) ∧ Kept Nix w w' ∧ w'.heap.size = w.heap.size + 4 := by
  rintro w' rfl
  refine ⟨?_, ?_, ?_, heap_new (by simp), ((((Kept.refl _ w).alloc _).alloc _).alloc _).alloc _, by simp⟩
  · exact (Below.heap_alloc _ _ _ (by simp; omega)).trans ((Below.heap_alloc _ _ _ (by simp; omega)).trans ((Below.heap_alloc _ _ _ (by simp)).trans (heap_alloc_new _ _)))
  · exact (Below.heap_alloc _ _ _ (by simp)).trans ((Below.heap_alloc _ _ _ (by simp)).trans (heap_new (by simp)))
  · exact (Below.heap_alloc _ _ _ (by simp)).trans (heap_new (by simp))

theorem agg3 (r d : Int) (ao : Option Addr) (n c : Nat) : (#[.int .i64 r, .int .i64 d, .slice ao n c] : Array Value).size = 3 := rfl

/-- A result of two that live in memory: a sound and a number. -/
theorem results_sound {fn : Func} {p u : Tmp} (h : fn.results = #[.cell p 24, .cell u 27]) (tmps : Array Value) (w : World) (g q : Nat) (cs : Array Value) (x : Int)
    (hp : tmps.getD p undef = .pointer (some ⟨g, 0, none⟩)) (hg : w.heap[g]? = some (.cells cs 24 (0, 0))) (hc : cs.size = 3) (hu : tmps.getD u undef = .pointer (some ⟨q, 0, none⟩)) (hq : w.heap[q]? = some (.cells #[.int .i64 x] 27 (0, 0))) :
    (results fn tmps).run Try.prog w = .ok (.tuple #[.agg cs, .int .i64 x]) w := by
  have hp' : tmps[p]?.getD undef = .pointer (some ⟨g, 0, none⟩) := by simpa using hp
  have hu' : tmps[u]?.getD undef = .pointer (some ⟨q, 0, none⟩) := by simpa using hu
  have h1 := run_loadVar_row (P := Try.prog) w g 24 24 cs (0, 0) _ hg Try.underlying24 rfl (by rw [hc]; exact size_sound)
  have hx : w.cell? ⟨q, 0, none⟩ = some (.int .i64 x) := by rw [cell_of hq]; rfl
  have h2 : (loadVar 27 ⟨q, 0, none⟩).run Try.prog w = .ok (.int .i64 x) w := by
    simp [loadVar, go_sem, hx]
  simp [results, h, hp', hu', asAddr, h1, h2]

set_option maxRecDepth 10000 in
set_option maxHeartbeats 2000000 in
theorem unb_kind (vb : Value) (B : List Nat) (r d c : Int) (w : World) (hs : Sl w vb (u8s B)) (hk : kindE r d c ≠ 0) :
    Calls Try.prog 19 #[vb, .int .i64 r, .int .i64 d, .int .i64 c] w fun e w' => e = .returned (.tuple #[.agg z3, .int .i64 (kindE r d c)]) ∧ Kept Nix w w' := by
  have HK := kind_any r d c
  have ht : (kindE r d c != 0) = true := bne_iff_ne.2 hk
  obtain ⟨ao, cap, rfl⟩ := hs.shape
  clear hs hk
  generalize kindE r d c = e0 at *
  obtain ⟨b4, b6, b8, b9, k0, hsz⟩ := unb_start w (.slice ao B.length cap) d _ rfl
  refine (callsIn_wide (n := 3)).1 ?_
  refine callsIn_of_wp_marks Try.func19 rfl trivial ?_ rfl
  simp only [Try.ntmps19, List.size_toArray, List.length_cons, List.length_nil, Nat.reduceAdd, Nat.reduceSub, Array.replicate_succ, Array.replicate_zero, List.push_toArray, List.append_toArray, List.nil_append, List.cons_append]
  refine wpIn_wide.2 ?_
  have B8 := Lib.hid b8
  have K0 := Lib.hid k0
  have B9 := Lib.hid b9
  have B6 := Lib.hid b6
  clear b4 b6 b8 b9 k0 hsz
  go_upto_region 1 with fail
  generalize (((w.alloc (.cells #[.slice ao B.length cap] 33)).alloc (.cells #[.int .i64 d] 3)).alloc (.cells #[.int .i64 0, .int .i64 0, .slice none 0 0] 24)).alloc (.cells #[.int .i64 0] 27) = w0 at *
  have hx6 : w0.cell? ⟨w.heap.size + 1, 0, none⟩ = some (.int .i64 d) := by rw [cell_of B6.out]; rfl
  go_upto_region 3 with (first
    | (go_at_call 29; refine (HK _).mono ?_; rintro e w' ⟨rfl, rfl⟩))
  go_wp2_with (first
    | (refine wpList_store_row rfl 24 _ _ rfl _ _ rfl rfl 24 _ B8.out size_sound rfl (one_sound _ _ _ _ _) ?_
       have q9 := (heap_row_other (w := w') (g := w.heap.size + 1 + 1) (k := w.heap.size + 1 + 1 + 1) #[.int .i64 0, .int .i64 0, .slice none 0 0] (by omega)).trans B9.out
       have c9 := cell_of (i := 0) q9
       have f9 := frozen_of (i := 0) q9
       have q8 := heap_row (w := w') #[.int .i64 0, .int .i64 0, .slice none 0 0] B8.out
       have k5 := K0.out.setRow (g := w.heap.size + 1 + 1) (.inr (by omega)) #[.int .i64 0, .int .i64 0, .slice none 0 0]
       generalize w'.setRow (w.heap.size + 1 + 1) #[.int .i64 0, .int .i64 0, .slice none 0 0] = w5 at *
       have Q9 := Lib.hid q9
       have Q8 := Lib.hid q8
       have K5 := Lib.hid k5
       clear q9 q8 k5))
  exact ⟨_, results_sound rfl _ _ (w.heap.size + 1 + 1) (w.heap.size + 1 + 1 + 1) _ e0 rfl ((heap_set_other (p := ⟨w.heap.size + 1 + 1 + 1, 0, none⟩) (by simp)).trans Q8.out) rfl rfl (heap_set Q9.out), rfl, K5.out.setCell (.inr (by simp; omega)) _⟩

def unbSound (B : List Nat) (r d c : Int) : Int × Int × List (List Int) := if unbE B r d c = 0 then (r, d, unbL B (eachN d) c.toNat (B.length / (eachN d * c.toNat))) else (0, 0, [])

def UnbPost (B : List Nat) (r d c : Int) (w : World) (e : Ending) (w' : World) : Prop :=
  ∃ R D v L, e = .returned (.tuple #[.agg #[.int .i64 R, .int .i64 D, v], .int .i64 (unbE B r d c)]) ∧ Kept Nix w w' ∧ Chs w' v L ∧ (R, D, L) = unbSound B r d c

theorem unb_num {e C n : Nat} (he1 : 1 ≤ e) (he : e ≤ 4) (hC1 : 1 ≤ C) (hC : C ≤ 8) (hn : n < 1099511627776) : ∃ n1 : Nat, n1 = e * C ∧ 1 ≤ n1 ∧ n1 ≤ 32 ∧ wrap64 ((e : Int) * (C : Int)) = (n1 : Int) ∧ n / n1 < 1099511627776 := by
  have h1 : e * C ≤ 32 := Nat.mul_le_mul he hC
  have h2 : 1 ≤ e * C := Nat.mul_pos he1 hC1
  refine ⟨e * C, rfl, h2, h1, ?_, Nat.lt_of_le_of_lt (Nat.div_le_self _ _) hn⟩
  rw [← Int.natCast_mul]
  generalize e * C = x at *
  exact w64_in _ (by omega)

theorem box_ownFrom {β : Type} {B k : Nat} {t : TypeId} {fr : Nat × Nat} {G : β → Value → Prop} : OwnFrom B (fun (s : β) W => ∃ v, W.heap[k]? = some (.cells #[v] t fr) ∧ G s v) :=
  fun _ W W' row hs hg hr => by
    obtain ⟨v, h1, h2⟩ := hs
    exact ⟨v, heap_ownFrom (β := Unit) () W W' row h1 hg hr, h2⟩

theorem wpListIn_store_row {F : Fence} {n : Nat} {P : Program} {ops : Array Oper} {rest : List Oper} {o : Oper} {a : Act} {w : World} {Q : Exit → Act → World → Prop} (hgd : o.guard = none) (ty : TypeId) (x y : Operand) (ho : o.op = .store ty x y)
    (g : Nat) (cs : Array Value) (hx : a.eval x = .pointer (some ⟨g, 0, none⟩)) (hy : a.eval y = .agg cs) (t : TypeId) (old : Array Value) (hg : w.heap[g]? = some (.cells old t (0, 0))) (hi : (P.info? ty).map (·.size) = some cs.size) (hold : old.size = cs.size) (h1 : cs.all (·.oneCell') = true)
    (h : wpListIn F n P ops Q rest (a.put o.dst undef) (w.setRow g cs)) : wpListIn F n P ops Q (o :: rest) a w := by
  refine wpListIn_plain hgd fun K hK => ?_
  refine ⟨by simp [Oper.about, ho], ?_⟩
  rw [Oper.semAt_plain F _ _ (by rw [ho]; intro c hc'; cases hc')]
  have hr := store_row (P := P) (ty := ty) hg hi hold h1
  simp [execOp, ho, hx, hy, hr, Result.andThen, Oper.uponIn]
  exact hK _ _ h

theorem keepsOthers_setRow {w : World} {g : Nat} {cur cs : Array Value} {t : TypeId} {fr : Nat × Nat} (h : w.heap[g]? = some (.cells cur t fr)) : KeepsOthers w (w.setRow g cs) :=
  ⟨by simp [World.setRow], fun k o hk ho => by
    by_cases hkg : k = g
    · subst hkg; rw [h] at hk; cases hk; cases ho
    · exact (heap_row_other cs hkg).trans hk⟩

/-- The samples that stand where they belong, when these places have come. -/
def phi (B : List Nat) (e C : Nat) {N : Nat} (pre : List (Fin N)) : Nat → Nat → Int := pre.zipIdx.foldl (fun φ xk => upd φ (xk.1.val % C) (xk.1.val / C) (snum (chunk B e xk.2))) (fun _ _ => 0)

theorem phi_snoc (B : List Nat) (e C : Nat) {N : Nat} (pre : List (Fin N)) (x : Fin N) : phi B e C (pre ++ [x]) = upd (phi B e C pre) (x.val % C) (x.val / C) (snum (chunk B e pre.length)) := by
  unfold phi
  rw [List.zipIdx_append, List.foldl_append]
  simp

theorem phi_upto (B : List Nat) (e C M : Nat) (k : Nat) (hk : k ≤ M * C) (c i : Nat) (hc : c < C) : phi B e C (upto (M * C) k) c i = if i * C + c < k then snum (chunk B e (i * C + c)) else 0 := by
  induction k with
  | zero => simp [upto_zero, phi]
  | succ k ih =>
    rw [upto_succ _ _ hk, phi_snoc, upto_length _ _ (by omega)]
    unfold upd
    have hdm := Nat.div_add_mod k C
    by_cases h : c = k % C ∧ i = k / C
    · rw [if_pos h]
      have : i * C + c = k := by rw [h.1, h.2, Nat.mul_comm]; exact hdm
      rw [this, if_pos (by omega)]
    · rw [if_neg h, ih (by omega)]
      have hne : i * C + c ≠ k := by
        intro e'
        apply h
        rw [← e', place_mod hc, place_div hc]
        exact ⟨rfl, rfl⟩
      by_cases hlt : i * C + c < k
      · rw [if_pos hlt, if_pos (by omega)]
      · rw [if_neg hlt, if_neg (by omega)]

set_option maxRecDepth 10000 in
set_option maxHeartbeats 4000000 in
theorem unb_good (vb : Value) (B : List Nat) (r d : Int) (C : Nat) (w : World) (hs : Sl w vb (u8s B)) (hB : ∀ b ∈ B, b < 256) (hl : B.length < 1099511627776) (hk : kindE r d (C : Int) = 0) :
    Calls Try.prog 19 #[vb, .int .i64 r, .int .i64 d, .int .i64 (C : Int)] w (UnbPost B r d (C : Int) w) := by
  have HKI := kind_any r d (C : Int)
  rw [hk] at HKI
  obtain ⟨hC1, hC8, hd4, hd32⟩ := kind_parts hk
  obtain ⟨n1, hn1, hn1a, hn1b, hw1, hMb⟩ := unb_num (eachN_lo d) (eachN_hi d) hC1 hC8 hl
  have HN1 := Lib.hid hn1
  have HKD := Lib.hid hk
  have HB := Lib.hid hB
  have HL := Lib.hid hl
  have HS := Lib.hid hs
  have HMB := Lib.hid hMb
  have HN1B := Lib.hid hn1b
  have HC := Lib.hid (And.intro hC1 hC8)
  obtain ⟨ao, cap, rfl⟩ := hs.shape
  obtain ⟨b4, b6, b8, b9, k0, hsz⟩ := unb_start w (.slice ao B.length cap) d _ rfl
  refine (callsIn_wide (n := 3)).1 ?_
  refine callsIn_of_wp_marks Try.func19 rfl trivial ?_ rfl
  simp only [Try.ntmps19, List.size_toArray, List.length_cons, List.length_nil, Nat.reduceAdd, Nat.reduceSub, Array.replicate_succ, Array.replicate_zero, List.push_toArray, List.append_toArray, List.nil_append, List.cons_append]
  refine wpIn_wide.2 ?_
  have B8 := Lib.hid b8
  have K0 := Lib.hid k0
  have B9 := Lib.hid b9
  have B6 := Lib.hid b6
  have B4 := Lib.hid b4
  have HSZ := Lib.hid hsz
  clear b4 b6 b8 b9 k0 hsz hs hB hl hk hn1 hC1 hC8 hd4 hd32 hMb hn1b
  go_upto_region 1 with fail
  generalize (((w.alloc (.cells #[.slice ao B.length cap] 33)).alloc (.cells #[.int .i64 d] 3)).alloc (.cells #[.int .i64 0, .int .i64 0, .slice none 0 0] 24)).alloc (.cells #[.int .i64 0] 27) = w0 at *
  have hx6 : w0.cell? ⟨w.heap.size + 1, 0, none⟩ = some (.int .i64 d) := by rw [cell_of B6.out]; rfl
  have hsz0 : w0.heap.size = w.heap.size + 4 := HSZ.out
  go_upto_region 5 with (first
    | (go_at_call 29; refine (HKI _).mono ?_; rintro e w' ⟨rfl, rfl⟩)
    | (go_at_call 17; refine (each_any _ _).mono ?_; rintro e w' ⟨rfl, rfl⟩))
  have kA : Kept Nix w' (w'.alloc (.cells #[.int .i64 (eachN d : Int)] 3)) := (Kept.refl _ _).alloc _
  have a4 := kA.heap B4.out id
  have a6 := kA.heap B6.out id
  have a8 := kA.heap B8.out id
  have a9 := kA.heap B9.out id
  have a11 : (w'.alloc (.cells #[.int .i64 (eachN d : Int)] 3)).heap[w.heap.size + 4]? = some (.cells #[.int .i64 (eachN d : Int)] 3 (0, 0)) := heap_new hsz0.symm
  have kwA := nix_trans K0.out kA
  have szA : (w'.alloc (.cells #[.int .i64 (eachN d : Int)] 3)).heap.size = w.heap.size + 5 := by simp [hsz0]
  generalize w'.alloc (.cells #[.int .i64 (eachN d : Int)] 3) = wA at *
  have A4 := Lib.hid a4
  have A6 := Lib.hid a6
  have A8 := Lib.hid a8
  have A9 := Lib.hid a9
  have A11 := Lib.hid a11
  have KA := Lib.hid kwA
  have SZA := Lib.hid szA
  have x4 : wA.cell? ⟨w.heap.size, 0, none⟩ = some (.slice ao B.length cap) := by rw [cell_of a4]; rfl
  have x6 : wA.cell? ⟨w.heap.size + 1, 0, none⟩ = some (.int .i64 d) := by rw [cell_of a6]; rfl
  have x11 : wA.cell? ⟨w.heap.size + 4, 0, none⟩ = some (.int .i64 (eachN d : Int)) := by rw [cell_of a11]; rfl
  clear B4 B6 B8 B9 K0 HSZ kA a4 a6 a8 a9 a11 kwA szA hx6 hsz0 HKI
  have hn0 : ((n1 : Int) == 0) = false := beq_eq_false_iff_ne.2 (by omega)
  by_cases hmod : B.length % n1 = 0
  · have hmz : ((B.length : Int) % (n1 : Int)) = 0 := by omega
    have HMOD := Lib.hid hmod
    clear hmod
    obtain ⟨M, hM⟩ : ∃ M : Nat, B.length / n1 = M := ⟨_, rfl⟩
    have hMM : M < 1099511627776 := by rw [← hM]; exact HMB.out
    have hwM : wrap64 ((B.length : Int) / (n1 : Int)) = (M : Int) := by
      rw [show (B.length : Int) / (n1 : Int) = ((B.length / n1 : Nat) : Int) by simp, hM]
      exact w64_in _ (by omega)
    have SI := silent_any r d C M HC.out.2 (by omega) wA
    have HM := Lib.hid hM
    have HMM := Lib.hid hMM
    clear hM hMM
    go_upto_region 9 with (first
      | (go_at_call 33; refine SI.mono ?_; rintro e wB ⟨v, rs, rfl, kB, hrs, hgd⟩; obtain ⟨vao, vcap, rfl, _, _⟩ := owns_shape hgd.1; have KB := Lib.hid kB; have HRS := Lib.hid hrs; have HGD := Lib.hid hgd; clear kB hrs hgd))
    go_wp2_with (first
      | (go_at_call 30; refine (places_any _ _ _).mono ?_; rintro e w' ⟨rfl, rfl⟩))
    have kC : Kept Nix wB (((wB.alloc (.cells #[.int .i64 r, .int .i64 d, .slice vao rs.length vcap] 24)).alloc (.cells #[.int .i64 (C : Int)] 3)).alloc (.cells #[.int .i64 (M : Int)] 3)) := (((Kept.refl _ _).alloc _).alloc _).alloc _
    have c13 : (((wB.alloc (.cells #[.int .i64 r, .int .i64 d, .slice vao rs.length vcap] 24)).alloc (.cells #[.int .i64 (C : Int)] 3)).alloc (.cells #[.int .i64 (M : Int)] 3)).heap[wB.heap.size]? = some (.cells #[.int .i64 r, .int .i64 d, .slice vao rs.length vcap] 24 (0, 0)) := (Below.heap_alloc _ _ _ (by simp; omega)).trans ((Below.heap_alloc _ _ _ (by simp)).trans (heap_alloc_new _ _))
    have hBc : (((wB.alloc (.cells #[.int .i64 r, .int .i64 d, .slice vao rs.length vcap] 24)).alloc (.cells #[.int .i64 (C : Int)] 3)).alloc (.cells #[.int .i64 (M : Int)] 3)).heap[wB.heap.size + 1]? = some (.cells #[.int .i64 (C : Int)] 3 (0, 0)) := (Below.heap_alloc _ _ _ (by simp)).trans (heap_new (by simp))
    have hBm : (((wB.alloc (.cells #[.int .i64 r, .int .i64 d, .slice vao rs.length vcap] 24)).alloc (.cells #[.int .i64 (C : Int)] 3)).alloc (.cells #[.int .i64 (M : Int)] 3)).heap[wB.heap.size + 1 + 1]? = some (.cells #[.int .i64 (M : Int)] 3 (0, 0)) := heap_new (by simp)
    have szC : (((wB.alloc (.cells #[.int .i64 r, .int .i64 d, .slice vao rs.length vcap] 24)).alloc (.cells #[.int .i64 (C : Int)] 3)).alloc (.cells #[.int .i64 (M : Int)] 3)).heap.size = wB.heap.size + 3 := by simp
    generalize ((wB.alloc (.cells #[.int .i64 r, .int .i64 d, .slice vao rs.length vcap] 24)).alloc (.cells #[.int .i64 (C : Int)] 3)).alloc (.cells #[.int .i64 (M : Int)] 3) = wC at *
    have kAC := nix_trans KB.out kC
    have kwC := nix_trans KA.out kAC
    have c4 := kAC.heap A4.out id
    have c6 := kAC.heap A6.out id
    have c8 := kAC.heap A8.out id
    have c9 := kAC.heap A9.out id
    have c11 := kAC.heap A11.out id
    have gC := HGD.out.kept kC
    have szAB := KB.out.size
    have szA' := SZA.out
    clear x4 x6 x11 hmz hwM SI
    refine (wpIn_wide (n := 3)).1 ?_
    refine wpIn_rangeFunc_ownH (F := Fence.wide) rfl (by omega) (gf := 39) (lb := #[.pointer (some ⟨wB.heap.size + 1 + 1, 0, none⟩), .pointer (some ⟨wB.heap.size + 1, 0, none⟩)]) rfl trivial (enters_of Try.func39 (by kernel_rfl) rfl)
      (places_stops _ C M (wB.heap.size + 1 + 1) (wB.heap.size + 1) (by have := HC.out; omega) HMM.out wC hBm hBc) keepsBox_t (keepsBox_b (by omega)) (Below.refl _ _) (fun _ => rfl)
      (fun pre W => Kept Nix w W ∧ (W.heap[wB.heap.size + 1]? = some (.cells #[.int .i64 (C : Int)] 3 (0, 0)) ∧ (W.heap[w.heap.size + 1]? = some (.cells #[.int .i64 d] 3 (0, 0)) ∧ (W.heap[w.heap.size + 1 + 1]? = some (.cells z3 24 (0, 0)) ∧ (W.heap[w.heap.size + 1 + 1 + 1]? = some (.cells #[.int .i64 0] 27 (0, 0)) ∧ (W.heap[w.heap.size + 4]? = some (.cells #[.int .i64 (eachN d : Int)] 3 (0, 0)) ∧
        (W.heap[wB.heap.size]? = some (.cells #[.int .i64 r, .int .i64 d, .slice vao rs.length vcap] 24 (0, 0)) ∧ (Grid wA.heap.size W (.slice vao rs.length vcap) M rs (gridF C M (phi B (eachN d) C pre)) ∧ ((∃ vb, W.heap[w.heap.size]? = some (.cells #[vb] 33 (0, 0)) ∧ Sl w vb (u8s (B.drop (eachN d * pre.length)))) ∧ (∀ k, k < pre.length → inD (snum (chunk B (eachN d) k)) d = true))))))))))
      (fun c pre W => Kept Nix w W ∧ (W.heap[w.heap.size + 1 + 1]? = some (.cells z3 24 (0, 0)) ∧ (W.heap[w.heap.size + 1 + 1 + 1]? = some (.cells #[.int .i64 6] 27 (0, 0)) ∧ (c = .ret ∧ ∃ k, k < M * C ∧ inD (snum (chunk B (eachN d) k)) d = false))))
      (OwnFrom.and (kept_ownFrom (by have := kwC.size; omega)) (OwnFrom.and heap_ownFrom (OwnFrom.and heap_ownFrom (OwnFrom.and heap_ownFrom (OwnFrom.and heap_ownFrom (OwnFrom.and heap_ownFrom (OwnFrom.and heap_ownFrom (OwnFrom.and Grid.ownFrom (OwnFrom.and box_ownFrom (ownFrom_pure _ _))))))))))
      (fun c => OwnFrom.and (kept_ownFrom (by have := kwC.size; omega)) (OwnFrom.and heap_ownFrom (OwnFrom.and heap_ownFrom (ownFrom_pure _ _))))
      ⟨kwC, hBc, c6, c8, c9, c11, c13, gC, ⟨_, c4, HS.out⟩, fun k hk => absurd hk (Nat.not_lt_zero k)⟩
      (fun x a' _ => a'.defers = [] ∧ a'.tmps.size = 72 ∧ a'.tmps[4]? = some (.pointer (some ⟨w.heap.size, 0, none⟩)) ∧ a'.tmps[6]? = some (.pointer (some ⟨w.heap.size + 1, 0, none⟩)) ∧ a'.tmps[8]? = some (.pointer (some ⟨w.heap.size + 1 + 1, 0, none⟩)) ∧ a'.tmps[9]? = some (.pointer (some ⟨w.heap.size + 1 + 1 + 1, 0, none⟩)) ∧ a'.tmps[11]? = some (.pointer (some ⟨w.heap.size + 4, 0, none⟩)) ∧ a'.tmps[13]? = some (.pointer (some ⟨wB.heap.size, 0, none⟩)) ∧ a'.tmps[14]? = some (.int .i64 ((x.val % C : Nat) : Int)) ∧ a'.tmps[15]? = some (.int .i64 ((x.val / C : Nat) : Int)))
      (fun x a' => ownFrom_pure _ (fun _ => _))
      ?assign ?body ?done ?stop
    case assign =>
      rintro l pre x W K hi hK
      simp only [place]
      gi_wp2
      exact hK _ _ (KeepsFrom.refl _ _) rfl hi ⟨rfl, rfl, rfl, rfl, rfl, rfl, rfl, rfl, rfl, rfl⟩
    case body =>
      rintro l pre x ⟨tm, df⟩ W hl0 _ ⟨hkW, hbc, h6, h8, h9, h11, h13, hgd, ⟨vb, h4, hvb⟩, hin⟩ ⟨rfl, hs, e4, e6, e8, e9, e11, e13, e14, e15⟩ hlen
      simp only at hs e4 e6 e8 e9 e11 e13 e14 e15
      obtain ⟨f2, hf, hg⟩ := fr_open hs
      have g4 := hg _ _ e4
      have g6 := hg _ _ e6
      have g8 := hg _ _ e8
      have g9 := hg _ _ e9
      have g11 := hg _ _ e11
      have g13 := hg _ _ e13
      have g14 := hg _ _ e14
      have g15 := hg _ _ e15
      simp only [List.range, List.range.loop, List.map] at hf
      rw [g4, g6, g8, g9, g11, g13, g14, g15] at hf
      clear g4 g6 g8 g9 g11 g13 g14 g15 hg hs e4 e6 e8 e9 e11 e13 e14 e15
      subst hf
      have hC0 : 0 < C := HC.out.1
      have hcl : x.val % C < C := Nat.mod_lt _ hC0
      have hil : x.val / C < M := by rw [Nat.div_lt_iff_lt_mul hC0]; exact x.isLt
      have hBl : B.length = eachN d * (M * C) := by
        have h1 := Nat.div_add_mod B.length n1
        rw [HMOD.out, HM.out, HN1.out, Nat.add_zero] at h1
        rw [← h1, Nat.mul_assoc, Nat.mul_comm M C]
      have hrest : eachN d ≤ (B.drop (eachN d * pre.length)).length := by
        rw [List.length_drop, hBl, ← Nat.mul_sub]
        exact Nat.le_mul_of_pos_right _ (by omega)
      have hch : chunk B (eachN d) pre.length = (B.drop (eachN d * pre.length)).take (eachN d) := rfl
      have hdd : B.drop (eachN d * (pre.length + 1)) = (B.drop (eachN d * pre.length)).drop (eachN d) := by rw [List.drop_drop, Nat.mul_add, Nat.mul_one]
      obtain ⟨vao', vcap', rfl⟩ := hvb.shape
      have hcp := hvb.cap
      have htk := (hvb.take (eachN d) hrest).nix hkW
      rw [u8s_take, ← hch] at htk
      have hdr := hvb.drop (eachN d) hrest
      rw [u8s_drop, ← hdd] at hdr
      have he1 := eachN_lo d
      have he4 := eachN_hi d
      have SA := sample_any _ (chunk B (eachN d) pre.length) W htk (fun b hb => HB.out b (List.mem_of_mem_drop (List.mem_of_mem_take hb))) (by rw [hch, List.length_take]; omega) (by rw [hch, List.length_take]; omega)
      have fz1 : ∀ ww, _ := fun ww => run_from ww vao' (B.drop (eachN d * pre.length)).length vcap' (eachN d) hrest
      have fz2 : ∀ ww, _ := fun ww => run_from_at ww vao' (B.drop (eachN d * pre.length)).length vcap' (eachN d) hrest
      have x4 : W.cell? ⟨w.heap.size, 0, none⟩ = some (.slice vao' (B.drop (eachN d * pre.length)).length vcap') := by rw [cell_of h4]; rfl
      have x6 : W.cell? ⟨w.heap.size + 1, 0, none⟩ = some (.int .i64 d) := by rw [cell_of h6]; rfl
      have x11 : W.cell? ⟨w.heap.size + 4, 0, none⟩ = some (.int .i64 (eachN d : Int)) := by rw [cell_of h11]; rfl
      have hce : (eachN d : Int) ≤ (vcap' : Int) := by omega
      have hc0 : ¬ vcap' = 0 := by omega
      have HRST := Lib.hid hrest
      generalize hA1 : (if vcap' = eachN d then vao' else Option.map (fun x => x.add (eachN d)) vao') = A1 at *
      generalize hln : (B.drop (eachN d * pre.length)).length = ln at *
      generalize hl2 : ln - eachN d = l2 at *
      generalize hc2 : vcap' - eachN d = c2 at *
      obtain ⟨sn, hsn⟩ : ∃ sn, snum (chunk B (eachN d) pre.length) = sn := ⟨_, rfl⟩
      rw [hsn] at SA
      have hgs := hgd.set (i := x.val / C) hcl sn
      have hph : phi B (eachN d) C (pre ++ [x]) = upd (phi B (eachN d) C pre) (x.val % C) (x.val / C) sn := by rw [phi_snoc, hsn]
      have hown := hgd.1
      obtain ⟨g, cap0, hvv, _, _, hgb, _⟩ := owns_pos hown (by rw [HRS.out]; omega)
      simp only [Value.slice.injEq, true_and] at hvv
      obtain ⟨rfl, rfl⟩ := hvv
      have hrc := hgd.2.2.2.1 (x.val % C) (by rw [HRS.out]; exact hcl)
      have hcr : W.cell? ⟨g, x.val % C, none⟩ = some (.slice (some ⟨rs.getD (x.val % C) 0, 0, none⟩) M M) := by
        have h1 := hown.cells (g := g) rfl (x.val % C) (irow M (rs.getD (x.val % C) 0)) (by simp [List.getD, show x.val % C < rs.length by rw [HRS.out]; exact hcl])
        rwa [Addr.add_lit, Nat.zero_add] at h1
      have hci : ∃ z, W.cell? ⟨rs.getD (x.val % C) 0, x.val / C, none⟩ = some z := by
        rw [cell_of hrc.2.1, gridF_row _ _ _ hcl]
        simp [ivs, hil]
      obtain ⟨z, hci⟩ := hci
      have hfi : W.frozen? ⟨rs.getD (x.val % C) 0, x.val / C, none⟩ = false := frozen_of hrc.2.1
      have x13 : W.cell? ⟨wB.heap.size, 2, none⟩ = some (.slice (some ⟨g, 0, none⟩) rs.length vcap) := by rw [cell_of h13]; rfl
      have hr1 : ((x.val % C : Nat) : Int) < (rs.length : Int) := by rw [HRS.out]; omega
      have hr2 : ((x.val / C : Nat) : Int) < (M : Int) := by omega
      have hrcge := hrc.1
      have hrcB : rs.getD (x.val % C) 0 < wB.heap.size := lt_of_heap (HGD.out.2.2.2.1 (x.val % C) (by rw [HRS.out]; exact hcl)).2.1
      have n13 : rs.getD (x.val % C) 0 ≠ wB.heap.size := by
        intro e'
        have := hrc.2.1
        rw [e', h13] at this
        simp at this
      have hrlt : rs.getD (x.val % C) 0 < wC.heap.size ∨ True := .inr trivial
      have HPH := Lib.hid hph
      have HGS := Lib.hid hgs
      have HSN := Lib.hid hsn
      have HIN := Lib.hid hin
      have HKW := Lib.hid hkW
      have HVB := Lib.hid hdr
      have H4 := Lib.hid h4
      have H6 := Lib.hid h6
      have H8 := Lib.hid h8
      have H9 := Lib.hid h9
      have H11 := Lib.hid h11
      have H13 := Lib.hid h13
      have HBC := Lib.hid hbc
      have HHL := Lib.hid hlen
      have HRCG := Lib.hid (And.intro hrc.1 hrc.2.1)
      clear hph hgs hsn hin hkW hdr h4 h6 h8 h9 h11 h13 hbc hlen hrlt hown hrc hgd hvb htk hcp hBl hch hdd hA1 hln hl2 hc2 hil hcl hrest hgb
      generalize hrcc : rs.getD (x.val % C) 0 = rc at *
      generalize hxc : x.val % C = xc at *
      generalize hxi : x.val / C = xi at *
      cases hii : inD sn d with
      | true =>
        have C1 := in_any sn d
        rw [hii] at C1
        have HII := Lib.hid hii
        clear hii
        have y4 : (W.setCell ⟨rc, xi, none⟩ (.int .i64 sn)).cell? ⟨w.heap.size, 0, none⟩ = some (.slice vao' ln vcap') := by rw [cell_of ((heap_set_other (p := ⟨rc, xi, none⟩) (show w.heap.size ≠ rc by omega)).trans H4.out)]; rfl
        have y4f : (W.setCell ⟨rc, xi, none⟩ (.int .i64 sn)).frozen? ⟨w.heap.size, 0, none⟩ = false := frozen_of ((heap_set_other (p := ⟨rc, xi, none⟩) (show w.heap.size ≠ rc by omega)).trans H4.out)
        have y11 : (W.setCell ⟨rc, xi, none⟩ (.int .i64 sn)).cell? ⟨w.heap.size + 4, 0, none⟩ = some (.int .i64 (eachN d : Int)) := by rw [cell_of ((heap_set_other (p := ⟨rc, xi, none⟩) (show w.heap.size + 4 ≠ rc by omega)).trans H11.out)]; rfl
        gi_wp2_with (first
          | (refine ⟨trivial, ?_⟩; gi_at_call 34; refine (CallsIn.inRound l (callsIn_wide.2 SA)).mono ?_; rintro e w' ⟨rfl, rfl⟩)
          | (refine ⟨trivial, ?_⟩; gi_at_call 15; refine (CallsIn.inRound l (callsIn_wide.2 (C1 _))).mono ?_; rintro e w' ⟨rfl, rfl⟩))
        have HW := Lib.hid (show ∀ (k : Nat) (cs : Array Value) (t : TypeId), k ≠ rc → k ≠ w.heap.size → w'.heap[k]? = some (.cells cs t (0, 0)) → ((w'.setCell ⟨rc, xi, none⟩ (.int .i64 sn)).setCell ⟨w.heap.size, 0, none⟩ (.slice A1 l2 c2)).heap[k]? = some (.cells cs t (0, 0)) from
          fun k cs t h1 h2 h3 => (heap_set_other (p := ⟨w.heap.size, 0, none⟩) h2).trans ((heap_set_other (p := ⟨rc, xi, none⟩) h1).trans h3))
        have hszw := HKW.out.size
        refine ⟨((KeepsOthers.setCell _ _ _).from _).trans ((KeepsOthers.setCell _ _ _).from _), (HW.out _ _ _ (by omega) (by omega) HBC.out).trans HBC.out.symm, (HKW.out.setCell (.inr (by simp; omega)) _).setCell (.inr (by simp)) _,
          HW.out _ _ _ (by omega) (by omega) HBC.out, HW.out _ _ _ (by omega) (by omega) H6.out, HW.out _ _ _ (by omega) (by omega) H8.out, HW.out _ _ _ (by omega) (by omega) H9.out, HW.out _ _ _ (by omega) (by omega) H11.out, HW.out _ _ _ (by omega) (by omega) H13.out, ?_, ⟨_, heap_set ((heap_set_other (p := ⟨rc, xi, none⟩) (show w.heap.size ≠ rc by omega)).trans H4.out), ?_⟩, fun k hk => ?_⟩
        · rw [HPH.out]
          refine HGS.out.other (Kept.setCell (S := One w.heap.size) (Kept.refl _ _) (p := ⟨w.heap.size, 0, none⟩) (.inl rfl) _) (fun k cur t hk' hh => ?_)
          have hk'' : k = w.heap.size := hk'
          subst hk''
          rw [heap_set_other (p := ⟨rc, xi, none⟩) (show w.heap.size ≠ rc by omega), H4.out] at hh
          cases hh
          exact ⟨by decide, by decide⟩
        · rw [List.length_append]
          exact HVB.out
        · rw [List.length_append, List.length_singleton] at hk
          by_cases hkp : k = pre.length
          · rw [hkp, HSN.out]; exact HII.out
          · exact HIN.out k (by omega)
      | false =>
        have C1 := in_any sn d
        rw [hii] at C1
        have HII := Lib.hid hii
        clear hii
        gi_wp2_with (first
          | (refine ⟨trivial, ?_⟩; gi_at_call 34; refine (CallsIn.inRound l (callsIn_wide.2 SA)).mono ?_; rintro e w' ⟨rfl, rfl⟩)
          | (refine ⟨trivial, ?_⟩; gi_at_call 15; refine (CallsIn.inRound l (callsIn_wide.2 (C1 _))).mono ?_; rintro e w' ⟨rfl, rfl⟩)
          | (refine wpListIn_store_row rfl 24 _ _ rfl _ _ rfl rfl 24 _ H8.out size_sound rfl (one_sound _ _ _ _ _) ?_
             have q9 := (heap_row_other (w := w') (g := w.heap.size + 1 + 1) (k := w.heap.size + 1 + 1 + 1) #[.int .i64 0, .int .i64 0, .slice none 0 0] (by omega)).trans H9.out
             have c9 := cell_of (i := 0) q9
             have f9 := frozen_of (i := 0) q9
             have q8 := heap_row (w := w') #[.int .i64 0, .int .i64 0, .slice none 0 0] H8.out
             have k5 := HKW.out.setRow (g := w.heap.size + 1 + 1) (.inr (by omega)) #[.int .i64 0, .int .i64 0, .slice none 0 0]
             have kf : KeepsOthers w' (w'.setRow (w.heap.size + 1 + 1) #[.int .i64 0, .int .i64 0, .slice none 0 0]) := keepsOthers_setRow H8.out
             generalize w'.setRow (w.heap.size + 1 + 1) #[.int .i64 0, .int .i64 0, .slice none 0 0] = w5 at *
             have Q9 := Lib.hid q9
             have Q8 := Lib.hid q8
             have K5 := Lib.hid k5
             have KF := Lib.hid kf
             clear q9 q8 k5 kf))
        refine ⟨(KF.out.trans (KeepsOthers.setCell _ _ _)).from _, K5.out.setCell (.inr (by simp; omega)) _, (heap_set_other (p := ⟨w.heap.size + 1 + 1 + 1, 0, none⟩) (by simp)).trans Q8.out, heap_set Q9.out, rfl, pre.length, HHL.out, by rw [HSN.out]; exact HII.out⟩
    case done =>
      rintro D xs W hD rfl ⟨hkW, hbc, h6, h8, h9, h11, h13, hgd, _, hin⟩ hK
      have hBl : B.length = eachN d * (M * C) := by
        have h1 := Nat.div_add_mod B.length n1
        rw [HMOD.out, HM.out, HN1.out, Nat.add_zero] at h1
        rw [← h1, Nat.mul_assoc, Nat.mul_comm M C]
      have hE : unbE B r d (C : Int) = 0 := by
        unfold unbE
        rw [if_pos HKD.out, Int.toNat_natCast, ← HN1.out, if_pos HMOD.out, if_pos]
        unfold unbR
        rw [List.all_eq_true]
        intro k hk
        rw [hBl, Nat.mul_div_cancel_left _ (eachN_lo d)] at hk
        exact hin k (by rw [upto_length _ _ (Nat.le_refl _)]; exact List.mem_range.1 hk)
      have hLL : gridF C M (phi B (eachN d) C (upto (M * C) (M * C))) = unbL B (eachN d) C M := by
        unfold unbL
        refine gridF_congr C M (fun c i hc hi => ?_)
        rw [phi_upto B (eachN d) C M _ (Nat.le_refl _) c i hc, if_pos (place_lt hi hc)]
      rw [hLL] at hgd
      have HE := Lib.hid hE
      have HKW := Lib.hid hkW
      have H8 := Lib.hid h8
      have H9 := Lib.hid h9
      have H13 := Lib.hid h13
      have HG := Lib.hid hgd
      have z0 : W.cell? ⟨wB.heap.size, 0, none⟩ = some (.int .i64 r) := by rw [cell_of h13]; rfl
      have z1 : W.cell? ⟨wB.heap.size, 1, none⟩ = some (.int .i64 d) := by rw [cell_of h13]; rfl
      have z2 : W.cell? ⟨wB.heap.size, 2, none⟩ = some (.slice vao rs.length vcap) := by rw [cell_of h13]; rfl
      clear hkW hbc h6 h8 h9 h11 h13 hgd hin hBl hE hLL c4 c6 c8 c9 c11 c13
      go_wp2_with (first
        | (refine wpList_store_row rfl 24 _ _ rfl _ _ rfl rfl 24 _ H8.out size_sound rfl (one_sound _ _ _ _ _) ?_
           have q9 := (heap_row_other (w := W) (g := w.heap.size + 1 + 1) (k := w.heap.size + 1 + 1 + 1) #[.int .i64 r, .int .i64 d, .slice vao rs.length vcap] (by omega)).trans H9.out
           have c9 := cell_of (i := 0) q9
           have f9 := frozen_of (i := 0) q9
           have q8 := heap_row (w := W) #[.int .i64 r, .int .i64 d, .slice vao rs.length vcap] H8.out
           have k5 := HKW.out.setRow (g := w.heap.size + 1 + 1) (.inr (by omega)) #[.int .i64 r, .int .i64 d, .slice vao rs.length vcap]
           have kf : KeepsOthers W (W.setRow (w.heap.size + 1 + 1) #[.int .i64 r, .int .i64 d, .slice vao rs.length vcap]) := keepsOthers_setRow H8.out
           have gg := HG.out.other (Kept.setRow (S := One (w.heap.size + 1 + 1)) (Kept.refl _ W) (.inl rfl) #[.int .i64 r, .int .i64 d, .slice vao rs.length vcap]) (fun k cur t hk' hh => by
             have hk'' : k = w.heap.size + 1 + 1 := hk'
             subst hk''
             rw [H8.out] at hh
             cases hh
             exact ⟨by decide, by decide⟩)
           have hKD := kf.same D _ hK rfl
           generalize W.setRow (w.heap.size + 1 + 1) #[.int .i64 r, .int .i64 d, .slice vao rs.length vcap] = w5 at *
           have Q9 := Lib.hid q9
           have Q8 := Lib.hid q8
           have K5 := Lib.hid k5
           have GG := Lib.hid gg
           have HKD5 := Lib.hid hKD
           clear q9 q8 k5 kf gg hKD))
      have hK' := (KeepsOthers.setCell w5 ⟨w.heap.size + 1 + 1 + 1, 0, none⟩ (.int .i64 0)).same D _ HKD5.out rfl
      have szw := kwC.size
      have g9 := GG.out.other (Kept.setCell (S := One (w.heap.size + 1 + 1 + 1)) (Kept.refl _ w5) (p := ⟨w.heap.size + 1 + 1 + 1, 0, none⟩) (.inl rfl) (.int .i64 0)) (fun k cur t hk' hh => by
        have hk'' : k = w.heap.size + 1 + 1 + 1 := hk'
        subst hk''
        rw [Q9.out] at hh
        cases hh
        exact ⟨by decide, by decide⟩)
      have gD := Grid.ownFrom (β := Unit) (B := 0) (f := fun _ => unbL B (eachN d) C M) () _ _ _ g9 (grownBy_putObj' _ D (.deferred none)) (fun k e' => by cases e'; exact ⟨Nat.zero_le _, _, hK', rfl⟩)
      refine ⟨by simp, .inl ⟨_, _, rfl, run_takeDeferred hK', ?_⟩⟩
      refine ⟨_, results_sound rfl _ _ (w.heap.size + 1 + 1) (w.heap.size + 1 + 1 + 1) _ 0 rfl (heap_putObj ((heap_set_other (p := ⟨w.heap.size + 1 + 1 + 1, 0, none⟩) (by simp)).trans Q8.out) (by omega)) rfl rfl (heap_putObj (heap_set Q9.out) (by omega)), r, d, _, unbL B (eachN d) C M, by rw [HE.out], (K5.out.setCell (.inr (by simp; omega)) _).putObj _ (by omega), gD.chs, ?_⟩
      unfold unbSound
      rw [if_pos HE.out, Int.toNat_natCast, ← HN1.out, HM.out]
    case stop =>
      rintro D c pre W hD hpre ⟨hkW, h8, h9, rfl, k, hk, hin⟩ hK
      have hBl : B.length = eachN d * (M * C) := by
        have h1 := Nat.div_add_mod B.length n1
        rw [HMOD.out, HM.out, HN1.out, Nat.add_zero] at h1
        rw [← h1, Nat.mul_assoc, Nat.mul_comm M C]
      have hE : unbE B r d (C : Int) = 6 := by
        unfold unbE
        rw [if_pos HKD.out, Int.toNat_natCast, ← HN1.out, if_pos HMOD.out, if_neg]
        unfold unbR
        rw [hBl, Nat.mul_div_cancel_left _ (eachN_lo d), List.all_eq_true]
        intro hall
        have := hall k (List.mem_range.2 hk)
        rw [hin] at this
        cases this
      have HE := Lib.hid hE
      have HKW := Lib.hid hkW
      have H8 := Lib.hid h8
      have H9 := Lib.hid h9
      have szw := kwC.size
      clear hkW h8 h9 hin hE hBl hk
      gi_wp2
      refine ⟨by simp, .inl ⟨_, _, rfl, run_takeDeferred hK, ?_⟩⟩
      refine ⟨_, results_sound rfl _ _ (w.heap.size + 1 + 1) (w.heap.size + 1 + 1 + 1) _ 6 rfl (heap_putObj H8.out (by omega)) rfl rfl (heap_putObj H9.out (by omega)), 0, 0, .slice none 0 0, [], by rw [HE.out]; rfl, HKW.out.putObj _ (by omega), chs_nil _, ?_⟩
      unfold unbSound
      rw [HE.out]
      rfl
  · have hne : (((B.length : Int) % (n1 : Int)) != 0) = true := bne_iff_ne.2 (by omega)
    have HMOD := Lib.hid hmod
    have hE : unbE B r d (C : Int) = 3 := by
      unfold unbE
      rw [if_pos HKD.out, Int.toNat_natCast, ← HN1.out, if_neg hmod]
    have HE := Lib.hid hE
    clear hmod hE
    go_wp2_with (first
      | (refine wpList_store_row rfl 24 _ _ rfl _ _ rfl rfl 24 _ A8.out size_sound rfl (one_sound _ _ _ _ _) ?_
         have q9 := (heap_row_other (w := wA) (g := w.heap.size + 1 + 1) (k := w.heap.size + 1 + 1 + 1) #[.int .i64 0, .int .i64 0, .slice none 0 0] (by omega)).trans A9.out
         have c9 := cell_of (i := 0) q9
         have f9 := frozen_of (i := 0) q9
         have q8 := heap_row (w := wA) #[.int .i64 0, .int .i64 0, .slice none 0 0] A8.out
         have k5 := KA.out.setRow (g := w.heap.size + 1 + 1) (.inr (by omega)) #[.int .i64 0, .int .i64 0, .slice none 0 0]
         generalize wA.setRow (w.heap.size + 1 + 1) #[.int .i64 0, .int .i64 0, .slice none 0 0] = w5 at *
         have Q9 := Lib.hid q9
         have Q8 := Lib.hid q8
         have K5 := Lib.hid k5
         clear q9 q8 k5))
    refine ⟨_, results_sound rfl _ _ (w.heap.size + 1 + 1) (w.heap.size + 1 + 1 + 1) _ 3 rfl ((heap_set_other (p := ⟨w.heap.size + 1 + 1 + 1, 0, none⟩) (by simp)).trans Q8.out) rfl rfl (heap_set Q9.out), 0, 0, _, [], by rw [HE.out], K5.out.setCell (.inr (by simp; omega)) _, chs_nil _, ?_⟩
    unfold unbSound
    rw [HE.out]
    rfl

theorem unb_any (vb : Value) (B : List Nat) (r d c : Int) (w : World) (hs : Sl w vb (u8s B)) (hB : ∀ b ∈ B, b < 256) (hl : B.length < 1099511627776) :
    Calls Try.prog 19 #[vb, .int .i64 r, .int .i64 d, .int .i64 c] w (UnbPost B r d c w) := by
  by_cases hk : kindE r d c = 0
  · have hc : 1 ≤ c := by
      unfold kindE at hk
      split at hk <;> omega
    obtain ⟨C, rfl⟩ : ∃ C : Nat, c = (C : Int) := ⟨c.toNat, by omega⟩
    exact unb_good vb B r d C w hs hB hl hk
  · have hE : unbE B r d c = kindE r d c := by unfold unbE; rw [if_neg hk]
    refine (unb_kind vb B r d c w hs hk).mono fun e w' ⟨h1, h2⟩ => ⟨0, 0, .slice none 0 0, [], by rw [hE]; exact h1, h2, chs_nil _, ?_⟩
    unfold unbSound
    rw [hE, if_neg hk]

end Go.Proofs.Ytpiongdkfebchaa
