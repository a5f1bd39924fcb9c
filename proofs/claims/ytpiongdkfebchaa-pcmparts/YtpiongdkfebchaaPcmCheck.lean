/- Package pcm: Check. -/
import Derived.Test.YtpiongdkfebchaaPcmIt
import Derived.Test.YtpiongdkfebchaaRoundQuiet
namespace Go.Proofs.Ytpiongdkfebchaa
open Go.RowKit Go.Shelf Bx
attribute [local go_sem] Oper.semAt_some

theorem kept_ownFrom {β : Type} {S : Nat → Prop} {w : World} {B : Nat} (hB : w.heap.size ≤ B) : OwnFrom B (fun (_ : β) W => Kept S w W) :=
  fun _ _ _ _ hs hg hr => hs.grown hg (fun k hk => .inr (by have := (hr k hk).1; omega))

theorem heap_ownFrom {β : Type} {B k : Nat} {cs : Array Value} {t : TypeId} {fr : Nat × Nat} : OwnFrom B (fun (_ : β) W => W.heap[k]? = some (.cells cs t fr)) :=
  fun _ W W' row hs hg hr => (hg.block k (lt_of_heap hs) (fun e => by obtain ⟨_, o, ho, hc⟩ := hr k e.symm; rw [hs] at ho; cases ho; cases hc)).trans hs

theorem Kept.putObj {S : Nat → Prop} {a w : World} (h : Kept S a w) {l : Nat} (o : Obj) (hl : a.heap.size ≤ l) : Kept S a (w.putObj l o) :=
  h.grown (grownBy_putObj' w l o) (fun k e => by cases e; exact .inr hl)

theorem heap_putObj {w : World} {k l : Nat} {o o1 : Obj} (h : w.heap[k]? = some o1) (hne : k ≠ l) : (w.putObj l o).heap[k]? = some o1 := (World.putObj_heap_other hne).trans h

theorem keepsBox_t {Bc : Nat} {A B C : World} (h : KeepsBox Bc A B) (k : KeepsBox Bc B C) : KeepsBox Bc A C := k.trans h
theorem keepsBox_b {Bc : Nat} {w : World} (hb : Bc < w.heap.size) (W : World) (l : Nat) (o o' : Obj) (hl : w.heap.size ≤ l) (_ : W.heap[l]? = some o) (_ : o.isCells = false) (_ : o.isWalk = false) : KeepsBox Bc W (W.putObj l o') :=
  World.putObj_heap_other (by omega)

/-- The sample at a place. -/
def smp (L : List (List Int)) (x : Nat) : Int := (L.getD (x % L.length) []).getD (x / L.length) 0

set_option maxHeartbeats 2000000 in
theorem check_kind (r d : Int) (v : Value) (L : List (List Int)) (w : World) (h : Chs w v L) (hk : kindE r d (L.length : Int) ≠ 0) :
    Calls Try.prog 11 #[.agg #[.int .i64 r, .int .i64 d, v]] w fun e w' => e = .returned (.int .i64 (kindE r d (L.length : Int))) ∧ Kept Nix w w' := by
  obtain ⟨ao, cap, rfl, hc, hm, hp⟩ := h.open
  have HK := kind_any r d (L.length : Int)
  have ht : (kindE r d (L.length : Int) != 0) = true := bne_iff_ne.2 hk
  clear hp hc hm h hk
  generalize kindE r d (L.length : Int) = e0 at *
  refine (callsIn_wide (n := 3)).1 ?_
  refine callsIn_of_wp_marks Try.func11 rfl trivial ?_ rfl
  simp only [Try.ntmps11, List.size_toArray, List.length_cons, List.length_nil, Nat.reduceAdd, Nat.reduceSub, Array.replicate_succ, Array.replicate_zero, List.push_toArray, List.append_toArray, List.nil_append, List.cons_append]
  gi_wp2_with (first
    | (refine ⟨trivial, ?_⟩; gi_at_call 29; refine (callsIn_wide.2 (HK _)).mono ?_; rintro e w' ⟨rfl, rfl⟩))
  refine ⟨.int .i64 e0, ?_, rfl, ((Kept.refl _ w).alloc _).alloc _⟩
  simp [results, Try.f11, go_sem]

def ChkInv (p1 p2 : Nat) (v : Value) (L : List (List Int)) (m : Nat) (w : World) (a : Act) (w' : World) : Prop :=
  a.defers = [] ∧ a.tmps.size = 53 ∧ a.tmps[1]? = some (.pointer (some ⟨p1, 0, none⟩)) ∧ a.tmps[2]? = some (.pointer (some ⟨p2, 0, none⟩)) ∧ a.tmps[4]? = some (.int .i64 (m : Int)) ∧ a.tmps[23]? = some v ∧ a.tmps[24]? = some (.int .i64 (L.length : Int)) ∧
    ∃ i : Nat, i ≤ L.length ∧ a.tmps[25]? = some (.int .i64 (i : Int)) ∧ (∀ j, j < i → (L.getD j []).length = m) ∧ w' = w

theorem even_of {L : List (List Int)} (h : ∀ j, j < L.length → (L.getD j []).length = manyN L) : evenB L = true := by
  unfold evenB
  rw [List.all_eq_true]
  intro c hc
  obtain ⟨j, hj, rfl⟩ := List.getElem_of_mem hc
  have := h j hj
  simp [List.getD, hj] at this
  simp [this]

theorem uneven_of {L : List (List Int)} {j : Nat} (hj : j < L.length) (h : (L.getD j []).length ≠ manyN L) : evenB L = false := by
  unfold evenB
  rw [List.all_eq_false]
  refine ⟨L[j], List.getElem_mem hj, ?_⟩
  simp [List.getD, hj] at h
  simp [h]

theorem keepsFrom_drewN (B : Nat) (W : World) (n : Nat) : KeepsFrom B W (W.drewN n) := ⟨Nat.le_refl _, fun _ _ _ h _ => h⟩

theorem range_of {L : List (List Int)} {d : Int} (he : ∀ j, j < L.length → (L.getD j []).length = manyN L) (h : ∀ x, x < manyN L * L.length → inD (smp L x) d = true) : rangeB L d = true := by
  unfold rangeB
  rw [List.all_eq_true]
  intro c hc
  obtain ⟨j, hj, rfl⟩ := List.getElem_of_mem hc
  rw [List.all_eq_true]
  intro n hn
  obtain ⟨i, hi, rfl⟩ := List.getElem_of_mem hn
  have hlen := he j hj
  have hg : L.getD j [] = L[j] := by simp [List.getD, hj]
  rw [hg] at hlen
  have h1 := h (i * L.length + j) (place_lt (by omega) hj)
  unfold smp at h1
  rw [place_mod hj, place_div hj, hg] at h1
  simpa [List.getD, hi] using h1

theorem unrange_of {L : List (List Int)} {d : Int} (hl : 0 < L.length) (he : ∀ j, j < L.length → (L.getD j []).length = manyN L) {x : Nat} (hx : x < manyN L * L.length) (h : inD (smp L x) d = false) : rangeB L d = false := by
  unfold rangeB
  rw [List.all_eq_false]
  have hj : x % L.length < L.length := Nat.mod_lt _ hl
  have hi : x / L.length < manyN L := by rw [Nat.div_lt_iff_lt_mul hl]; exact hx
  refine ⟨L[x % L.length], List.getElem_mem hj, ?_⟩
  have hg : L.getD (x % L.length) [] = L[x % L.length] := by simp [List.getD, hj]
  have hlen := he _ hj
  rw [hg] at hlen
  unfold smp at h
  rw [hg] at h
  intro hall
  rw [List.all_eq_true] at hall
  have hi' : x / L.length < L[x % L.length].length := by omega
  have := hall _ (List.getElem_mem hi')
  simp only [List.getD, List.getElem?_eq_getElem hi', Option.getD_some] at h
  rw [h] at this
  cases this

set_option maxRecDepth 10000 in
set_option maxHeartbeats 2000000 in
theorem check_good (r d : Int) (v : Value) (L : List (List Int)) (w : World) (h : Chs w v L) (hk : kindE r d (L.length : Int) = 0) (hM : manyN L < 1099511627776) (err : Int) (herr : (if evenB L = true then if rangeB L d = true then 0 else 6 else 13) = err) :
    Calls Try.prog 11 #[.agg #[.int .i64 r, .int .i64 d, v]] w fun e w' => e = .returned (.int .i64 err) ∧ Kept Nix w w' := by
  have HE := Lib.hid herr
  clear herr
  have hl : 1 ≤ L.length ∧ L.length ≤ 8 := by
    unfold kindE at hk
    split at hk
    · omega
    · omega
  have HCH := Lib.hid h
  obtain ⟨ao, cap, rfl, hc, hm, hp⟩ := h.open
  have HK := kind_any r d (L.length : Int)
  rw [hk] at HK
  have HL := Lib.hid hl
  have HM := Lib.hid hM
  clear hp hc hm h hk hl hM
  refine (callsIn_wide (n := 3)).1 ?_
  refine callsIn_of_wp_marks Try.func11 rfl trivial ?_ rfl
  simp only [Try.ntmps11, List.size_toArray, List.length_cons, List.length_nil, Nat.reduceAdd, Nat.reduceSub, Array.replicate_succ, Array.replicate_zero, List.push_toArray, List.append_toArray, List.nil_append, List.cons_append]
  have k1 : Kept Nix w ((w.alloc (.cells #[.int .i64 r, .int .i64 d, .slice ao L.length cap] 24)).alloc (.cells #[.int .i64 0] 27)) := ((Kept.refl _ w).alloc _).alloc _
  have HMY := many_any r d (.slice ao L.length cap) L _ (HCH.out.nix k1)
  have hb1 : ((w.alloc (.cells #[.int .i64 r, .int .i64 d, .slice ao L.length cap] 24)).alloc (.cells #[.int .i64 0] 27)).heap[w.heap.size]? = some (.cells #[.int .i64 r, .int .i64 d, .slice ao L.length cap] 24 (0, 0)) := (Below.heap_alloc _ _ _ (by simp)).trans (World.alloc_heap_new w _)
  have hb2 : ((w.alloc (.cells #[.int .i64 r, .int .i64 d, .slice ao L.length cap] 24)).alloc (.cells #[.int .i64 0] 27)).heap[w.heap.size + 1]? = some (.cells #[.int .i64 0] 27 (0, 0)) := heap_new (by simp)
  have HB1 := Lib.hid hb1
  have HB2 := Lib.hid hb2
  have K1 := Lib.hid k1
  clear hb1 hb2 k1
  gi_wp2_with (first
    | (refine ⟨trivial, ?_⟩; gi_at_call 29; refine (callsIn_wide.2 (HK _)).mono ?_; rintro e w' ⟨rfl, rfl⟩)
    | (refine ⟨trivial, ?_⟩; gi_at_call 13; refine (callsIn_wide.2 HMY).mono ?_; rintro e w2 ⟨rfl, hk2⟩; have KM := Lib.hid hk2; have hx1 := cell_of (i := 2) (hk2.heap HB1.out id); have HB1' := Lib.hid (hk2.heap HB1.out id); have HB2' := Lib.hid (hk2.heap HB2.out id); clear hk2))
  have KW := Lib.hid (nix_trans K1.out KM.out)
  have HC2 := Lib.hid (HCH.out.nix KW.out)
  clear HMY HB1 HB2 K1 KM hx1 HK HCH
  refine wpIn_loop (ChkInv w.heap.size (w.heap.size + 1) (.slice ao L.length cap) L (manyN L) w2) (fun a _ => L.length - (intOf (a.tmps.getD 25 undef)).toNat) ?_ ?_
  · exact ⟨rfl, rfl, rfl, rfl, rfl, rfl, rfl, 0, Nat.zero_le _, rfl, fun j hj => absurd hj (Nat.not_lt_zero j), rfl⟩
  · rintro ⟨tm, df⟩ w1 ⟨rfl, hs, e1, e2, e4, e23, e24, i, hi, e25, hall, rfl⟩
    simp only at hs e1 e2 e4 e23 e24 e25
    obtain ⟨f, hf, hg⟩ := fr_open hs
    have g1 := hg _ _ e1
    have g2 := hg _ _ e2
    have g4 := hg _ _ e4
    have g23 := hg _ _ e23
    have g24 := hg _ _ e24
    have g25 := hg _ _ e25
    simp only [List.range, List.range.loop, List.map] at hf
    rw [g1, g2, g4, g23, g24, g25] at hf
    clear g1 g2 g4 g23 g24 g25 hg hs e1 e2 e4 e23 e24 e25
    subst hf
    have HALL := Lib.hid hall
    clear hall
    have hl8 : L.length ≤ 8 := HL.out.2
    by_cases hlt : i < L.length
    · obtain ⟨b, off, rfl, hb, A, C, hh⟩ := HC2.out.at (by omega)
      have hcell := (hh i hlt).1
      have hd : decide ((i : Int) < (L.length : Int)) = true := decide_eq_true (by omega)
      have hi1 : (i : Int) < (L.length : Int) := by omega
      have HI := Lib.hid hlt
      have hfz := frozen_of (i := 0) HB2'.out
      have hcz : w1.cell? ⟨w.heap.size + 1, 0, none⟩ = some (.int .i64 0) := by rw [cell_of HB2'.out]; rfl
      clear hh hi hlt hb
      by_cases hq : (L.getD i []).length = manyN L
      · have HQ := Lib.hid hq
        rw [hq] at hcell
        clear hq
        generalize A i = ai at *
        generalize C i = ci at *
        generalize hmm : manyN L = m at *
        have hne : ((m : Int) != (m : Int)) = false := by simp
        gi_wp2
        refine ⟨⟨rfl, rfl, rfl, rfl, rfl, rfl, rfl, i + 1, HI.out, ?_, fun j hj => ?_, rfl⟩, ?_⟩
        · simp
        · by_cases hji : j = i
          · subst hji; exact HQ.out
          · exact HALL.out j (by omega)
        · have := HI.out
          simp [intOf]
          omega
      · have hu : evenB L = false := uneven_of HI.out hq
        have he : (13 : Int) = err := by rw [← HE.out, if_neg (by rw [hu]; simp)]
        have HE13 := Lib.hid he
        clear he hu
        have hne : (((L.getD i []).length : Int) != (manyN L : Int)) = true := bne_iff_ne.2 (by omega)
        generalize (L.getD i []).length = li at *
        generalize A i = ai at *
        generalize C i = ci at *
        generalize manyN L = m at *
        clear hq
        gi_wp2
        refine ⟨.int .i64 13, ?_, ret_int HE13.out, KW.out.setCell (.inr (by simp)) _⟩
        have hc5 : (w1.setCell ⟨w.heap.size + 1, 0, none⟩ (.int .i64 13)).cell? ⟨w.heap.size + 1, 0, none⟩ = some (.int .i64 13) := World.cell?_setCell_same' _ _ _ (by rw [hcz]; rfl)
        simp [results, Try.f11, go_sem, hc5]
    · have hev : evenB L = true := even_of (fun j hj => HALL.out j (by omega))
      have hd : decide ((i : Int) < (L.length : Int)) = false := decide_eq_false (by omega)
      have HEV := Lib.hid hev
      have hx1 : w1.cell? ⟨w.heap.size, 2, none⟩ = some (.slice ao L.length cap) := by rw [cell_of HB1'.out]; rfl
      have HLT := Lib.hid hlt
      clear hlt hi hev
      gi_wp2_with (first
        | (refine ⟨trivial, ?_⟩; gi_at_call 30; refine (callsIn_wide.2 (places_any _ _ _)).mono ?_; rintro e w' ⟨rfl, rfl⟩))
      have hsz : ((w1.alloc (.cells #[.int .i64 (L.length : Int)] 3)).alloc (.cells #[.int .i64 (manyN L : Int)] 3)).heap.size = w1.heap.size + 2 := by simp
      have k3 : Kept Nix w1 ((w1.alloc (.cells #[.int .i64 (L.length : Int)] 3)).alloc (.cells #[.int .i64 (manyN L : Int)] 3)) := ((Kept.refl _ w1).alloc _).alloc _
      have hBc : ((w1.alloc (.cells #[.int .i64 (L.length : Int)] 3)).alloc (.cells #[.int .i64 (manyN L : Int)] 3)).heap[w1.heap.size]? = some (.cells #[.int .i64 (L.length : Int)] 3 (0, 0)) := (Below.heap_alloc _ _ _ (by simp)).trans (World.alloc_heap_new w1 _)
      have hBm : ((w1.alloc (.cells #[.int .i64 (L.length : Int)] 3)).alloc (.cells #[.int .i64 (manyN L : Int)] 3)).heap[w1.heap.size + 1]? = some (.cells #[.int .i64 (manyN L : Int)] 3 (0, 0)) := heap_new (by simp)
      obtain ⟨w3, hw3⟩ : ∃ w3, (w1.alloc (.cells #[.int .i64 (L.length : Int)] 3)).alloc (.cells #[.int .i64 (manyN L : Int)] 3) = w3 := ⟨_, rfl⟩
      rw [hw3] at hsz k3 hBc hBm ⊢
      clear hw3
      have k03 := nix_trans KW.out k3
      have b1 := k3.heap HB1'.out id
      have b2 := k3.heap HB2'.out id
      have hp1 := lt_of_heap HB1'.out
      have hp2 := lt_of_heap HB2'.out
      have HC3 := HC2.out.nix k3
      clear HC2 HB1' HB2' hx1
      refine wpIn_rangeFunc_ownH (F := Fence.wide) rfl (by omega) (gf := 39) (lb := #[.pointer (some ⟨w1.heap.size + 1, 0, none⟩), .pointer (some ⟨w1.heap.size, 0, none⟩)]) rfl trivial (enters_of Try.func39 (by kernel_rfl) rfl)
        (places_stops _ L.length (manyN L) (w1.heap.size + 1) w1.heap.size (by omega) HM.out w3 hBm hBc) keepsBox_t (keepsBox_b (by omega)) (Below.refl _ _) (fun _ => rfl)
        (fun pre W => Kept Nix w3 W ∧ ∀ x ∈ pre, inD (smp L x.val) d = true)
        (fun c pre W => Kept (One (w.heap.size + 1)) w3 W ∧ (W.heap[w.heap.size + 1]? = some (.cells #[.int .i64 6] 27 (0, 0)) ∧ (c = .ret ∧ ∃ x ∈ pre, inD (smp L x.val) d = false)))
        (OwnFrom.and (kept_ownFrom (Nat.le_refl _)) (ownFrom_pure _ _))
        (fun c => OwnFrom.and (kept_ownFrom (Nat.le_refl _)) (OwnFrom.and heap_ownFrom (ownFrom_pure _ _)))
        ⟨Kept.refl _ _, by simp⟩
        (fun x a' _ => a'.defers = [] ∧ a'.tmps.size = 53 ∧ a'.tmps[1]? = some (.pointer (some ⟨w.heap.size, 0, none⟩)) ∧ a'.tmps[2]? = some (.pointer (some ⟨w.heap.size + 1, 0, none⟩)) ∧ a'.tmps[7]? = some (.int .i64 ((x.val % L.length : Nat) : Int)) ∧ a'.tmps[8]? = some (.int .i64 ((x.val / L.length : Nat) : Int)))
        (fun x a' => ownFrom_pure _ (fun _ => _))
        ?assign ?body ?done ?stop
      case assign =>
        rintro l pre x W K hi hK
        simp only [place]
        gi_wp2
        exact hK _ _ (KeepsFrom.refl _ _) rfl hi ⟨rfl, rfl, rfl, rfl, rfl, rfl⟩
      case body =>
        rintro l pre x ⟨tm, df⟩ W hl0 _ ⟨hkW, hin⟩ ⟨rfl, hs, e1, e2, e7, e8⟩ hlen
        simp only at hs e1 e2 e7 e8
        obtain ⟨f2, hf, hg⟩ := fr_open hs
        have g1 := hg _ _ e1
        have g2 := hg _ _ e2
        have g7 := hg _ _ e7
        have g8 := hg _ _ e8
        simp only [List.range, List.range.loop, List.map] at hf
        rw [g1, g2, g7, g8] at hf
        clear g1 g2 g7 g8 hg hs e1 e2 e7 e8
        subst hf
        have hxl := x.isLt
        have hL0 : 0 < L.length := HL.out.1
        have hcl : x.val % L.length < L.length := Nat.mod_lt _ hL0
        have hil : x.val / L.length < manyN L := by rw [Nat.div_lt_iff_lt_mul hL0]; exact hxl
        have HCW := HC3.nix hkW
        obtain ⟨b, off, rfl, hb, A, C, hh⟩ := HCW.at hL0
        obtain ⟨hrow, hsl⟩ := hh _ hcl
        have hlen2 : (L.getD (x.val % L.length) []).length = manyN L := HALL.out _ (by have := HLT.out; omega)
        obtain ⟨b', off', hA⟩ := hsl.where (by rw [hlen2]; exact Nat.lt_of_le_of_lt (Nat.zero_le _) hil)
        rw [hA] at hsl hrow
        have hcell := hsl.cellInt (i := x.val / L.length) (by rw [hlen2]; exact hil)
        rw [hlen2] at hrow
        have hsmp : (L.getD (x.val % L.length) []).getD (x.val / L.length) 0 = smp L x.val := rfl
        rw [hsmp] at hcell
        have hx1 : W.cell? ⟨w.heap.size, 1, none⟩ = some (.int .i64 d) := by rw [cell_of (hkW.heap b1 id)]; rfl
        have hx2 : W.cell? ⟨w.heap.size, 2, none⟩ = some (.slice (some ⟨b, off, none⟩) L.length cap) := by rw [cell_of (hkW.heap b1 id)]; rfl
        have hx3 : W.cell? ⟨b, off + x.val % L.length, none⟩ = some (.slice (some ⟨b', off', none⟩) (manyN L) (C (x.val % L.length))) := hrow
        have hx4 : W.cell? ⟨b', off' + x.val / L.length, none⟩ = some (.int .i64 (smp L x.val)) := hcell
        have hr1 : ((x.val % L.length : Nat) : Int) < (L.length : Int) := by omega
        have hr2 : ((x.val / L.length : Nat) : Int) < (manyN L : Int) := by omega
        have hmx : Try.prog.follows .mixedOrders = true := by kernel_rfl
        have KW' := Lib.hid hkW
        have HIN := Lib.hid hin
        have b2W := hkW.heap b2 id
        have hy1 : W.cell? ⟨w.heap.size + 1, 0, none⟩ = some (.int .i64 0) := by rw [cell_of b2W]; rfl
        have hy2 : W.frozen? ⟨w.heap.size + 1, 0, none⟩ = false := frozen_of b2W
        have HX : ∃ xv : Nat, xv = x.val := ⟨_, rfl⟩
        generalize hxc : x.val % L.length = xc at *
        generalize hxi : x.val / L.length = xi at *
        generalize hsm : smp L x.val = sm at *
        generalize C xc = cc at *
        generalize manyN L = mm at *
        have HSM := Lib.hid hsm
        clear hh hrow hsl hA hcell hkW hin hlen hl0 hxl hil hcl hL0 HCW hb HC3 hxc hxi hsm hsmp hlen2 b2W HX
        by_cases hi : inD sm d = true
        · have HI := Lib.hid hi
          have HCALL := in_any sm d
          rw [hi] at HCALL
          clear hi
          gi_wp2
          refine round_quiet_lit (by kernel_rfl) (by kernel_rfl) (by kernel_rfl) ?_
          repeat (go_big_quiet_step ((go_at_call 15; exact Calls.quiet_of_same (HCALL _))))
          refine wpQuiet_nil ?_
          rintro _ ⟨nq, rfl⟩
          gi_wp2
          refine ⟨keepsFrom_drewN _ _ _, rfl, KW'.out.drewN _, fun y hy => ?_⟩
          rcases List.mem_append.1 hy with hy | hy
          · exact HIN.out y hy
          · obtain rfl := List.mem_singleton.1 hy
            rw [HSM.out]
            exact HI.out
        · have hif : inD sm d = false := by simpa using hi
          have HI := Lib.hid hif
          have HCALL := in_any sm d
          rw [hif] at HCALL
          clear hi hif
          gi_wp2
          refine round_quiet_lit (by kernel_rfl) (by kernel_rfl) (by kernel_rfl) ?_
          repeat (go_big_quiet_step ((go_at_call 15; exact Calls.quiet_of_same (HCALL _))))
          refine wpQuiet_nil ?_
          rintro _ ⟨nq, rfl⟩
          gi_wp2
          have hbx : ((W.drewN nq).setCell ⟨w.heap.size + 1, 0, none⟩ (.int .i64 6)).heap[w.heap.size + 1]? = some (.cells #[.int .i64 6] 27 (0, 0)) := heap_set (w := W.drewN nq) (KW'.out.heap b2 id)
          refine ⟨(keepsFrom_drewN _ _ nq).trans ((KeepsOthers.setCell _ _ _).from _), Kept.setCell (S := One (w.heap.size + 1)) ((KW'.out.drewN nq).mono (fun _ h => absurd h id)) (p := ⟨w.heap.size + 1, 0, none⟩) (.inl rfl) _, hbx, rfl, x, List.mem_append.2 (.inr (by simp)), ?_⟩
          rw [HSM.out]
          exact HI.out
      case done =>
        rintro D xs W hD rfl ⟨hkW, hin⟩ hK
        have he : (0 : Int) = err := by
          rw [← HE.out, if_pos HEV.out, if_pos]
          exact range_of (fun j hj => HALL.out j (by have := HLT.out; omega)) (fun x hx => hin ⟨x, hx⟩ (upto_mem _ _))
        have b2W := hkW.heap b2 id
        have hy1 : W.cell? ⟨w.heap.size + 1, 0, none⟩ = some (.int .i64 0) := by rw [cell_of b2W]; rfl
        have hy2 : W.frozen? ⟨w.heap.size + 1, 0, none⟩ = false := frozen_of b2W
        have HK2 := Lib.hid hkW
        have HE0 := Lib.hid he
        clear hin hkW he
        gi_wp2
        have hK' := (KeepsOthers.setCell W ⟨w.heap.size + 1, 0, none⟩ (.int .i64 0)).same D _ hK rfl
        refine ⟨by simp, .inl ⟨_, _, rfl, run_takeDeferred hK', ?_⟩⟩
        have hc5 : ((W.setCell ⟨w.heap.size + 1, 0, none⟩ (.int .i64 0)).putObj D (.deferred none)).heap[w.heap.size + 1]? = some (.cells #[.int .i64 0] 27 (0, 0)) := heap_putObj (heap_set b2W) (by omega)
        have hc6 : ((W.setCell ⟨w.heap.size + 1, 0, none⟩ (.int .i64 0)).putObj D (.deferred none)).cell? ⟨w.heap.size + 1, 0, none⟩ = some (.int .i64 0) := by rw [cell_of hc5]; rfl
        refine ⟨.int .i64 0, ?_, ret_int HE0.out, ((nix_trans k03 HK2.out).setCell (.inr (by simp)) _).putObj _ (by omega)⟩
        simp [results, Try.f11, go_sem, hc6]
      case stop =>
        rintro D c pre W hD hpre ⟨hkW, hb, rfl, x, hx, hout⟩ hK
        have he : (6 : Int) = err := by
          rw [← HE.out, if_pos HEV.out, if_neg]
          rw [unrange_of (by have := HL.out; omega) (fun j hj => HALL.out j (by have := HLT.out; omega)) x.isLt hout]
          simp
        have HK2 := Lib.hid hkW
        have HE0 := Lib.hid he
        clear he hout hx hkW
        gi_wp2
        refine ⟨by simp, .inl ⟨_, _, rfl, run_takeDeferred hK, ?_⟩⟩
        have hc5 : (W.putObj D (.deferred none)).cell? ⟨w.heap.size + 1, 0, none⟩ = some (.int .i64 6) := by rw [cell_of (heap_putObj hb (by omega))]; rfl
        refine ⟨.int .i64 6, ?_, ret_int HE0.out, (nix_put k03 HK2.out (fun j hj => by have hj' : j = w.heap.size + 1 := hj; omega)).putObj _ (by omega)⟩
        simp [results, Try.f11, go_sem, hc5]

theorem check_any (r d : Int) (v : Value) (L : List (List Int)) (w : World) (h : Chs w v L) (hM : manyN L < 1099511627776) :
    Calls Try.prog 11 #[.agg #[.int .i64 r, .int .i64 d, v]] w fun e w' => e = .returned (.int .i64 (chkE r d L)) ∧ Kept Nix w w' := by
  unfold chkE
  by_cases hk : kindE r d (L.length : Int) = 0
  · rw [if_pos hk]
    exact check_good r d v L w h hk hM _ rfl
  · rw [if_neg hk]
    exact check_kind r d v L w h hk

end Go.Proofs.Ytpiongdkfebchaa
