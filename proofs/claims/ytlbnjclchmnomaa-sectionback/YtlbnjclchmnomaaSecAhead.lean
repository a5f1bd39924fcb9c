/- Package section: takeAhead, putAhead, pieces. -/
import Derived.Test.YtlbnjclchmnomaaSecLeaf
namespace Go.Proofs.Ytlbnjclchmnomaa
open Go.RowKit Bx

set_option maxRecDepth 10000 in
set_option maxHeartbeats 1000000 in
theorem tahead_any (base q : Nat) (v : Value) (B : List Nat) (a f : Nat) (w : World) (h : Rd base w q v B a f) (hl : 8 * B.length < 8589934592) :
    Calls Try.prog 32 #[.pointer (some ⟨q, 0, none⟩)] w fun e w' => e = .returned (.tuple #[.agg #[.bool (tkAhead B a f).wd, .int .i64 ((tkAhead B a f).o : Nat), .slice none 0 0], .int .i64 ((tkAhead B a f).e : Nat)]) ∧ RdPost base w q v B (tkAhead B a f).a (tkAhead B a f).f w' := by
  have hg := heap_alloc_new w (.cells #[.bool false, .int .i64 0, .slice none 0 0] 25)
  have k1 : Kept (One q) w (w.alloc (.cells #[.bool false, .int .i64 0, .slice none 0 0] 25)) := (Kept.refl _ w).alloc _
  have r1 := h.kept ((Kept.refl Nix w).alloc (.cells #[.bool false, .int .i64 0, .slice none 0 0] 25)) (fun h => h) (fun _ _ h => h)
  have HQ := Lib.hid (show ¬ One q w.heap.size from fun e => by have := h.lt; have e : w.heap.size = q := e; omega)
  have RK := Lib.hid (fun a' f' w' cs (h' : Rd base w' q v B a' f') => h'.kept ((Kept.refl (One w.heap.size) w').setRow (.inl rfl) cs) (fun e => by have := h.lt; have e : q = w.heap.size := e; omega) (fun k hk e => by have := (h.own hk).2; have e : k = w.heap.size := e; omega))
  have TK := Lib.hid (fun a f (n : Nat) (hn : n ≤ 64) w' (h : Rd base w' q v B a f) => by
    have := take_any base q v B a f (n : Int) w' h (by omega)
    rw [show wid (n : Int) = n by unfold wid; omega] at this
    exact this)
  have FL := Lib.hid (fun a f w' (h : Rd base w' q v B a f) => fail_any base q v B a f w' h)
  have HG := Lib.hid hg
  have K1 := Lib.hid k1
  have R1 := Lib.hid r1
  have hv1 := rval_lt B a f 2
  have hv4 := rval_lt B (rat B a f 2) (rfail B a f 2) 4
  have HV4 := Lib.hid (show wrap64 (rval B (rat B a f 2) (rfail B a f 2) 4 : Int) = (rval B (rat B a f 2) (rfail B a f 2) 4 : Int) by unfold wrap64; omega)
  clear h hg k1 r1 hl hv1 hv4
  have T4 := Lib.hid (TK.out (rat B a f 2) (rfail B a f 2) 4 (by decide))
  have T1 := Lib.hid (TK.out a f 2 (by decide))
  unfold tkAhead
  clear TK
  generalize rval B (rat B a f 2) (rfail B a f 2) 4 = v4 at *
  generalize rat B (rat B a f 2) (rfail B a f 2) 4 = a4 at *
  generalize rfail B (rat B a f 2) (rfail B a f 2) 4 = f4 at *
  generalize rval B a f 2 = v1 at *
  generalize rat B a f 2 = a1 at *
  generalize rfail B a f 2 = f1 at *
  by_cases he : 1 < v1
  · have t1 : decide ((1 : Int) < (v1 : Int)) = true := decide_eq_true (by omega)
    rw [if_pos he]
    clear he HV4 T4
    go_enter Try.func32, Try.ntmps32
    go_upto_region 1 with fail
    generalize w.alloc (.cells #[.bool false, .int .i64 0, .slice none 0 0] 25) = w1 at *
    go_wp2_with (first
      | (go_at_call 52; refine (T1.out _ R1.out).mono ?_; rintro e w2 ⟨rfl, p2⟩; have G3 := Lib.hid (p2.2.heap HG.out HQ.out); have R3 := Lib.hid p2.1; have K3 := Lib.hid (K1.out.trans p2.2 (fun _ h => h) (fun _ _ h => h)); clear p2)
      | (refine wpList_store_row rfl 25 _ _ rfl _ _ rfl rfl 25 _ G3.out size_plan rfl (one_plan _ _ _ _ _) ?_))
    exact bodyPost_ret (results_plan1 rfl _ _ w.heap.size _ 8 rfl (heap_row _ G3.out) rfl rfl) rfl ⟨rfl, RK.out _ _ _ _ R3.out, K3.out.setRow (.inr (Nat.le_refl _)) _⟩
  · have t1 : decide ((1 : Int) < (v1 : Int)) = false := decide_eq_false (by omega)
    have t2 : ((v1 : Int) == 1) = (v1 == 1) := by
      rcases Nat.eq_zero_or_pos v1 with rfl | h
      · rfl
      · have : v1 = 1 := by omega
        subst this; rfl
    have hw4 := HV4.out
    rw [if_neg he]
    obtain ⟨d, hd⟩ : ∃ d, (v1 == 1) = d := ⟨_, rfl⟩
    rw [hd] at t2 ⊢
    clear he hd
    go_enter Try.func32, Try.ntmps32
    go_upto_region 1 with fail
    generalize w.alloc (.cells #[.bool false, .int .i64 0, .slice none 0 0] 25) = w1 at *
    go_upto_region 4 with (first
      | (go_at_call 52; refine (T1.out _ R1.out).mono ?_; rintro e w2 ⟨rfl, p2⟩))
    have G2 := Lib.hid (p2.2.heap HG.out HQ.out)
    have R2 := Lib.hid p2.1
    have K2 := Lib.hid (K1.out.trans p2.2 (fun _ h => h) (fun _ _ h => h))
    clear p2
    go_wp2_with (first
      | (go_at_call 52; refine (T4.out _ R2.out).mono ?_; rintro e w3 ⟨rfl, p3⟩; have G3 := Lib.hid (p3.2.heap G2.out HQ.out); have R3 := Lib.hid p3.1; have K3 := Lib.hid (K2.out.trans p3.2 (fun _ h => h) (fun _ _ h => h)); clear p3)
      | (go_at_call 53; refine (FL.out _ _ _ R3.out).mono ?_; rintro e w' ⟨rfl, rfl⟩)
      | (refine wpList_store_row rfl 25 _ _ rfl _ _ rfl rfl 25 _ G3.out size_plan rfl (one_plan _ _ _ _ _) ?_))
    exact bodyPost_ret (results_plan1 rfl _ _ w.heap.size _ (f4 : Int) rfl (heap_row _ G3.out) rfl rfl) rfl ⟨rfl, RK.out _ _ _ _ R3.out, K3.out.setRow (.inr (Nat.le_refl _)) _⟩

/-- A put, as bits. -/
theorem put_dg (base p : Nat) (v : Value) (X : List Bool) (n k : Nat) (w : World) (h : Wr base w p v (num X) X.length (pad X.length)) (hk : k ≤ 64) (hc : X.length < 1099511627776) (hb : base ≤ w.heap.size) :
    Calls Try.prog 45 #[.pointer (some ⟨p, 0, none⟩), .int .u64 (n : Int), .int .i64 (k : Int)] w fun e w' => e = .returned (.tuple #[]) ∧ PutPost base w p v (num (X ++ dg k n)) (X ++ dg k n).length w' := by
  have := put_any base p v (num X) X.length n (k : Int) w h hc hb
  rw [show wid (k : Int) = k by unfold wid; omega] at this
  rw [num_append, dg_length, num_dg, List.length_append, dg_length]
  exact this

theorem PutPost.wr {base p : Nat} {v : Value} {X : List Bool} {w w' : World} (h : PutPost base w p v (num X) X.length w') : ∃ v', Wr base w' p v' (num X) X.length (pad X.length) ∧ Kept (Only p v) w w' ∧ (v'.ownBlock = v.ownBlock ∨ ∃ k, v'.ownBlock = some k ∧ w.heap.size ≤ k) := h

/-- What lay in memory, apart from the writer, is as it was. -/
theorem PutPost.heap {base p : Nat} {v : Value} {N c : Nat} {w w' : World} (h : PutPost base w p v N c w') {k : Nat} {o : Obj} (hk : w.heap[k]? = some o) (h1 : ¬ Only p v k) : w'.heap[k]? = some o := by
  obtain ⟨v', _, h2, _⟩ := h
  exact h2.heap hk h1

set_option maxRecDepth 10000 in
set_option maxHeartbeats 1000000 in
theorem pahead_any (base p : Nat) (v : Value) (X : List Bool) (wd : Bool) (o : Nat) (uo : Option Addr) (un uc : Nat) (w : World) (h : Wr base w p v (num X) X.length (pad X.length)) (hc : X.length < 1000000000000) (hb : base ≤ w.heap.size) (ho : o ≤ 15) :
    Calls Try.prog 25 #[.pointer (some ⟨p, 0, none⟩), .agg #[.bool wd, .int .i64 (o : Int), .slice uo un uc]] w fun e w' => e = .returned (.tuple #[]) ∧ PutPost base w p v (num (X ++ hdb wd o)) (X ++ hdb wd o).length w' := by
  have HG := Lib.hid (heap_alloc_new w (.cells #[.bool wd, .int .i64 (o : Int), .slice uo un uc] 25))
  have K1 := Lib.hid (show Kept (Only p v) w (w.alloc (.cells #[.bool wd, .int .i64 (o : Int), .slice uo un uc] 25)) from (Kept.refl _ w).alloc _)
  have R1 := Lib.hid (h.kept ((Kept.refl Nix w).alloc (.cells #[.bool wd, .int .i64 (o : Int), .slice uo un uc] 25)) (fun h => h) (fun _ _ h => h))
  have HQ := Lib.hid (show ¬ Only p v w.heap.size from fun e => by rcases e with e | e; have := h.lt; omega; have := (h.own e).2; omega)
  have SZ := Lib.hid (show base ≤ (w.alloc (.cells #[.bool wd, .int .i64 (o : Int), .slice uo un uc] 25)).heap.size by simp; omega)
  have hw : IntKind.u64.wrap (o : Int) = (o : Int) := by rw [IntKind.wrap_u64]; omega
  have PD := Lib.hid (fun v X (n k : Nat) w' (h : Wr base w' p v (num X) X.length (pad X.length)) (hk : k ≤ 64) (hc : X.length < 1099511627776) hb => put_dg base p v X n k w' h hk hc hb)
  have HC := Lib.hid hc
  clear h ho hc
  cases wd
  all_goals
    go_enter Try.func25, Try.ntmps25
    go_upto_region 1 with fail
    generalize w.alloc (.cells #[.bool _, .int .i64 (o : Int), .slice uo un uc] 25) = w1 at *
    obtain ⟨x0, x1, -⟩ := cells_three HG.out
    go_upto_region 5 with (go_at_call 45; refine (PD.out v X _ 2 _ R1.out (by decide) (by have := HC.out; omega) SZ.out).mono ?_; rintro e w2 ⟨rfl, p2⟩)
    obtain ⟨y0, y1, -⟩ := cells_three (p2.heap HG.out HQ.out)
    obtain ⟨v2, r2, k2, n2⟩ := p2.wr
    have K2 := Lib.hid k2
    have R2 := Lib.hid r2
    have N2 := Lib.hid n2
    have S2 := Lib.hid (Nat.le_trans SZ.out k2.size)
    clear x0 x1 p2 k2 r2 n2
    go_wp2_with (go_at_call 45; refine (PD.out v2 _ _ 4 _ R2.out (by decide) (by have := HC.out; rw [List.length_append, dg_length]; omega) S2.out).mono ?_; rintro e w3 ⟨rfl, p3⟩)
    go_end0
    refine ⟨rfl, ?_⟩
    unfold hdb
    rw [← List.append_assoc]
    have hz : w.heap.size ≤ w1.heap.size := K1.out.size
    obtain ⟨v3, r3, k3, n3⟩ := PutPost.trans K2.out N2.out p3
    exact ⟨v3, r3, K1.out.trans k3 (fun _ h => h) (fun _ _ h => h), n3.imp id (fun ⟨k, h1, h2⟩ => ⟨k, h1, Nat.le_trans hz h2⟩)⟩

theorem pieces_any (lo : Option Addr) (ln lc : Nat) (co : Option Addr) (cn cc : Nat) (w : World) :
    Calls Try.prog 26 #[.slice lo ln lc, .slice co cn cc] w fun e w' => e = .returned (.func (.func 46) #[] #[.pointer (some ⟨w.heap.size + 1, 0, none⟩), .pointer (some ⟨w.heap.size, 0, none⟩)]) ∧ w' = (w.alloc (.cells #[.slice lo ln lc] 22)).alloc (.cells #[.slice co cn cc] 22) := by
  go_enter Try.func26, Try.ntmps26
  go_wp2
  go_ret
  exact ⟨rfl, rfl⟩

end Go.Proofs.Ytlbnjclchmnomaa
