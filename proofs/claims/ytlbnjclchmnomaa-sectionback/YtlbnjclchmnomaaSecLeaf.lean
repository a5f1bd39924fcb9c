/- Package section: kBits, rawMark, check, takeNumber, takePart. -/
import Derived.Test.YtlbnjclchmnomaaSecMath
import Derived.Test.YtlbnjclchmnomaaPk17
namespace Go.Proofs.Ytlbnjclchmnomaa
open Go.RowKit Bx

set_option maxHeartbeats 400000 in
theorem kbits_any (wd : Bool) (w : World) : Calls Try.prog 48 #[.bool wd] w fun e w' => e = .returned (.int .i64 (wA wd : Nat)) ∧ w = w' := by
  cases wd
  all_goals
    go_enter Try.func48, Try.ntmps48
    go_wp2
    go_ret
    exact ⟨rfl, rfl⟩

set_option maxHeartbeats 400000 in
theorem rawMark_any (wd : Bool) (w : World) : Calls Try.prog 47 #[.bool wd] w fun e w' => e = .returned (.int .u64 ((wM wd + 1 : Nat) : Int)) ∧ w = w' := by
  have KB := Lib.hid (kbits_any wd w)
  cases wd
  all_goals
    go_enter Try.func47, Try.ntmps47
    go_wp2_with (go_at_call 48; refine KB.out.mono ?_; rintro e w' ⟨rfl, rfl⟩)
    go_ret
    exact ⟨rfl, rfl⟩

theorem farN_tests (x : Int) : (farN x = true ∧ (decide (x ≤ -2147483648) = true ∨ (decide (x ≤ -2147483648) = false ∧ decide (2147483648 ≤ x) = true))) ∨ (farN x = false ∧ decide (x ≤ -2147483648) = false ∧ decide (2147483648 ≤ x) = false) := by
  unfold farN
  cases decide (x ≤ -2147483648) <;> cases decide (2147483648 ≤ x) <;> simp

set_option maxHeartbeats 400000 in
theorem scheck_any (base q : Nat) (v : Value) (B : List Nat) (a f : Nat) (x : Int) (w : World) (h : Rd base w q v B a f) :
    Calls Try.prog 35 #[.pointer (some ⟨q, 0, none⟩), .int .i64 x] w fun e w' => e = .returned (.int .i64 (tkE f x : Nat)) ∧ w = w' := by
  have FL := Lib.hid (fail_any base q v B a f w h)
  clear h
  by_cases h0 : f = 0
  · subst h0
    have e1 : tkE 0 x = if farN x = true then 14 else 0 := by simp [tkE]
    rw [e1]
    rcases farN_tests x with ⟨t, t1 | ⟨t1, t2⟩⟩ | ⟨t, t1, t2⟩
    all_goals
      rw [t]
      clear t e1
      go_enter Try.func35, Try.ntmps35
      go_wp2_with (go_at_call 53; refine FL.out.mono ?_; rintro e w' ⟨rfl, rfl⟩)
      go_ret
      exact ⟨rfl, rfl⟩
  · have e1 : tkE f x = f := by simp [tkE, h0]
    have t : ((f : Int) != 0) = true := by simp; omega
    rw [e1]
    clear e1 h0
    go_enter Try.func35, Try.ntmps35
    go_wp2_with (go_at_call 53; refine FL.out.mono ?_; rintro e w' ⟨rfl, rfl⟩)
    go_ret
    exact ⟨rfl, rfl⟩

set_option maxRecDepth 10000 in
set_option maxHeartbeats 1000000 in
theorem tnum_any (base q : Nat) (v : Value) (B : List Nat) (a f : Nat) (k : Int) (r : Bool) (w : World) (h : Rd base w q v B a f) (hl : 8 * B.length < 8589934592) (hk0 : 0 ≤ k) (hk : k ≤ 31) :
    Calls Try.prog 34 #[.pointer (some ⟨q, 0, none⟩), .agg #[.int .i64 k, .bool r]] w fun e w' => e = .returned (.int .i64 (tkNum B (k, r) a f).x) ∧ RdPost base w q v B (tkNum B (k, r) a f).a (tkNum B (k, r) a f).f w' := by
  obtain ⟨n, rfl⟩ : ∃ n : Nat, k = (n : Int) := ⟨k.toNat, by omega⟩
  have hn : n ≤ 31 := by omega
  have PC := Lib.hid (part_cells w (n : Int) r 50)
  have K1 := Lib.hid ((Kept.refl Nix w).alloc (.cells #[.int .i64 (n : Int), .bool r] 50))
  have R1 := Lib.hid (h.kept K1.out (fun h => h) (fun _ _ h => h))
  have KO := Lib.hid (K1.out.mono (T := One q) (fun _ h => absurd h id))
  clear h hk0 hk
  cases r with
  | false =>
    have RT := Lib.hid (fun w' (h : Rd base w' q v B a f) => riceTake_any base q v B a f (n : Int) w' h hl)
    unfold RiceTakePost at RT
    simp only [tkNum, Bool.false_eq_true, if_false]
    go_enter Try.func34, Try.ntmps34
    go_upto_region 1 with fail
    generalize w.alloc (.cells #[.int .i64 (n : Int), .bool false] 50) = w1 at *
    obtain ⟨y0, y1, -⟩ := PC.out w1 (Kept.refl _ _)
    go_wp2_with (go_at_call 54; refine (RT.out _ R1.out).mono ?_; rintro e w2 ⟨rfl, p2⟩)
    go_ret
    exact ⟨rfl, p2.1, KO.out.trans p2.2 (fun _ h => h) (fun _ _ h => h)⟩
  | true =>
    have RT := Lib.hid (fun w' (h : Rd base w' q v B a f) => take_any base q v B a f (n : Int) w' h (by omega))
    rw [show wid (n : Int) = n by unfold wid; omega] at RT
    have e1 : wrap64 (64 - (n : Int)) = ((64 - n : Nat) : Int) := by unfold wrap64; omega
    have e2 : min (64 - n) 64 = 64 - n := by omega
    have SG := sgn_shift n (rval B a f n) hn (rval_lt B a f n)
    simp only [tkNum, if_true, Int.toNat_natCast]
    rw [← SG]
    have e0 : ((64 - n : Nat) : Int) = ((64 - n : Nat) : Int) := rfl
    clear SG e0
    generalize rval B a f n = u at *
    generalize rat B a f n = ra at *
    generalize rfail B a f n = rf at *
    obtain ⟨s, hs⟩ : ∃ s, 64 - n = s := ⟨_, rfl⟩
    rw [hs] at e1 e2 ⊢
    have hs2 : ¬ ((s : Int) < 0) := by omega
    clear hs hn
    go_enter Try.func34, Try.ntmps34
    go_upto_region 1 with fail
    generalize w.alloc (.cells #[.int .i64 (n : Int), .bool true] 50) = w1 at *
    obtain ⟨y0, y1, -⟩ := PC.out w1 (Kept.refl _ _)
    go_upto_region 4 with fail
    go_wp2_with (go_at_call 52; refine (RT.out _ R1.out).mono ?_; rintro e w2 ⟨rfl, p2⟩)
    go_ret
    exact ⟨rfl, p2.1, KO.out.trans p2.2 (fun _ h => h) (fun _ _ h => h)⟩

/-- A part as the only result. -/
theorem results_part0 {fn : Func} {p : Tmp} (h : fn.results = #[.cell p 50]) (tmps : Array Value) (w : World) (g : Nat) (cs : Array Value)
    (hp : tmps.getD p undef = .pointer (some ⟨g, 0, none⟩)) (hg : w.heap[g]? = some (.cells cs 50 (0, 0))) (hc : cs.size = 2) : (results fn tmps).run Try.prog w = .ok (.agg cs) w := by
  have h1 := run_loadVar_row (P := Try.prog) w g 50 50 cs (0, 0) _ hg Try.underlying50 rfl (by rw [hc]; exact size_part)
  simp only [Array.getD_eq_getD_getElem?] at hp
  simp only [results, h]
  simp [hp, asAddr, h1]

theorem wid_wA (wd : Bool) : wid ((wA wd : Nat) : Int) = wA wd := by cases wd <;> rfl

set_option maxRecDepth 10000 in
set_option maxHeartbeats 1000000 in
theorem tpart_any (base q : Nat) (v : Value) (B : List Nat) (a f : Nat) (wd : Bool) (w : World) (h : Rd base w q v B a f) (hl : 8 * B.length < 8589934592) :
    Calls Try.prog 33 #[.pointer (some ⟨q, 0, none⟩), .bool wd] w fun e w' => e = .returned (.agg #[.int .i64 (tkPart B wd a f).p.1, .bool (tkPart B wd a f).p.2]) ∧ RdPost base w q v B (tkPart B wd a f).a (tkPart B wd a f).f w' := by
  have hg := heap_alloc_new w (.cells #[.int .i64 0, .bool false] 50)
  have k1 : Kept (One q) w (w.alloc (.cells #[.int .i64 0, .bool false] 50)) := (Kept.refl _ w).alloc _
  have r1 := h.kept ((Kept.refl Nix w).alloc (.cells #[.int .i64 0, .bool false] 50)) (fun h => h) (fun _ _ h => h)
  have HQ := Lib.hid h.lt
  have HO := Lib.hid (fun k hk => (h.own (k := k) hk).2)
  have TK := Lib.hid (fun a f (n : Nat) (hn : n ≤ 64) w' (h : Rd base w' q v B a f) => by
    have := take_any base q v B a f (n : Int) w' h (by omega)
    rw [show wid (n : Int) = n by unfold wid; omega] at this
    exact this)
  have KB := Lib.hid (kbits_any wd)
  have RM := Lib.hid (rawMark_any wd)
  have W5 := Lib.hid (show wA wd ≤ 64 by cases wd <;> decide)
  have HG := Lib.hid hg
  have K1 := Lib.hid k1
  have R1 := Lib.hid r1
  have hv1 := rval_lt B a f (wA wd)
  have hv5 := rval_lt B (rat B a f (wA wd)) (rfail B a f (wA wd)) 5
  have HV1 := Lib.hid (show wrap64 (rval B a f (wA wd) : Int) = (rval B a f (wA wd) : Int) by
    rcases wA_cases wd with ⟨-, e, -⟩ | ⟨-, e, -⟩ <;> rw [e] at hv1 ⊢ <;> unfold wrap64 <;> omega)
  have HV5 := Lib.hid (show wrap64 (rval B (rat B a f (wA wd)) (rfail B a f (wA wd)) 5 : Int) = (rval B (rat B a f (wA wd)) (rfail B a f (wA wd)) 5 : Int) by unfold wrap64; omega)
  clear h hg k1 r1 hl hv1 hv5
  have T5 := Lib.hid (TK.out (rat B a f (wA wd)) (rfail B a f (wA wd)) 5 (by decide))
  have T1 := Lib.hid (TK.out a f (wA wd) W5.out)
  unfold tkPart
  clear TK
  generalize wA wd = n at *
  generalize wM wd + 1 = M at *
  generalize rval B (rat B a f n) (rfail B a f n) 5 = v5 at *
  generalize rat B (rat B a f n) (rfail B a f n) 5 = a5 at *
  generalize rfail B (rat B a f n) (rfail B a f n) 5 = f5 at *
  generalize rval B a f n = v1 at *
  generalize rat B a f n = a1 at *
  generalize rfail B a f n = f1 at *
  by_cases he : v1 = M
  · have t1 : ((v1 : Int) == (M : Int)) = true := by simp [he]
    have hw5 := HV5.out
    rw [if_pos he]
    clear he HV1
    go_enter Try.func33, Try.ntmps33
    go_upto_region 1 with fail
    generalize w.alloc (.cells #[.int .i64 0, .bool false] 50) = w1 at *
    go_upto_region 3 with (first
      | (go_at_call 48; refine (KB.out _).mono ?_; rintro e w' ⟨rfl, rfl⟩)
      | (go_at_call 47; refine (RM.out _).mono ?_; rintro e w' ⟨rfl, rfl⟩)
      | (go_at_call 52; refine (T1.out _ R1.out).mono ?_; rintro e w2 ⟨rfl, p2⟩))
    have G2 := Lib.hid (p2.2.heap HG.out (show ¬ One q w.heap.size from fun h => by have := HQ.out; have h : w.heap.size = q := h; omega))
    have R2 := Lib.hid p2.1
    have K2 := Lib.hid (K1.out.trans p2.2 (fun _ h => h) (fun _ _ h => h))
    clear p2
    go_wp2_with (first
      | (go_at_call 52; refine (T5.out _ R2.out).mono ?_; rintro e w3 ⟨rfl, p3⟩; have G3 := Lib.hid (p3.2.heap G2.out (show ¬ One q w.heap.size from fun h => by have := HQ.out; have h : w.heap.size = q := h; omega)); have R3 := Lib.hid p3.1; have K3 := Lib.hid (K2.out.trans p3.2 (fun _ h => h) (fun _ _ h => h)); clear p3)
      | (refine wpList_store_row rfl 50 _ _ rfl _ _ rfl rfl 50 _ G3.out size_part rfl (one_part _ _) ?_))
    exact bodyPost_ret (results_part0 rfl _ _ w.heap.size _ rfl (heap_row _ G3.out) rfl) rfl ⟨rfl, R3.out.kept ((Kept.refl (One w.heap.size) w3).setRow (.inl rfl) _) (fun h => by have := HQ.out; have h : q = w.heap.size := h; omega) (fun k hk h => by have := HO.out k hk; have h : k = w.heap.size := h; omega), K3.out.setRow (.inr (Nat.le_refl _)) _⟩
  · have t1 : ((v1 : Int) == (M : Int)) = false := by rw [beq_eq_false_iff_ne]; omega
    have hw1 := HV1.out
    rw [if_neg he]
    clear he HV5 T5
    go_enter Try.func33, Try.ntmps33
    go_upto_region 1 with fail
    generalize w.alloc (.cells #[.int .i64 0, .bool false] 50) = w1 at *
    go_wp2_with (first
      | (go_at_call 48; refine (KB.out _).mono ?_; rintro e w' ⟨rfl, rfl⟩)
      | (go_at_call 47; refine (RM.out _).mono ?_; rintro e w' ⟨rfl, rfl⟩)
      | (go_at_call 52; refine (T1.out _ R1.out).mono ?_; rintro e w2 ⟨rfl, p2⟩; have G3 := Lib.hid (p2.2.heap HG.out (show ¬ One q w.heap.size from fun h => by have := HQ.out; have h : w.heap.size = q := h; omega)); have R3 := Lib.hid p2.1; have K3 := Lib.hid (K1.out.trans p2.2 (fun _ h => h) (fun _ _ h => h)); clear p2)
      | (refine wpList_store_row rfl 50 _ _ rfl _ _ rfl rfl 50 _ G3.out size_part rfl (one_part _ _) ?_))
    exact bodyPost_ret (results_part0 rfl _ _ w.heap.size _ rfl (heap_row _ G3.out) rfl) rfl ⟨rfl, R3.out.kept ((Kept.refl (One w.heap.size) _).setRow (.inl rfl) _) (fun h => by have := HQ.out; have h : q = w.heap.size := h; omega) (fun k hk h => by have := HO.out k hk; have h : k = w.heap.size := h; omega), K3.out.setRow (.inr (Nat.le_refl _)) _⟩

end Go.Proofs.Ytlbnjclchmnomaa
