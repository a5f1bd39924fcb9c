/- Slices of plans of the call's own: each with its own slice of parts. The reference's Plans: loops as pieces. The reference's Plans: the plans of one width, one behind the other. The reference's Plans: all of them. The reference's Bits of a plan. What Best tells, in numbers: the plan's bits, and that no plan has fewer. No walk. -/
import Derived.Test.YtliggpidkdiinaaPk6
import Derived.Test.YtliggpidkdiinaaPk8
import Derived.Test.YtliggpidkdiinaaPk5
import Derived.Test.YtliggpidkdiinaaPk7
import Derived.Test.YtliggpidkdiinaaPk2

namespace Go.Proofs.Ytliggpidkdiinaa
open Go.RowKit Bx

theorem info_plan : (Try.prog.info? 26).map (fun i => (i.zero, i.size, i.bytes)) = some (some (.agg #[.bool false, .int .i64 0, .slice none 0 0]), 3, 40) := by kernel_rfl

theorem src_plan (w : World) (x y z : Value) (t : TypeId) (h1 : x.oneCell' = true) (h2 : y.oneCell' = true) (h3 : z.oneCell' = true) : SrcIs (w.alloc (.cells #[x, y, z] t)) 3 (some ⟨w.heap.size, 0, none⟩) 1 1 [x, y, z] := by
  refine ⟨rfl, fun h => by simp at h, ?_, by simp [h1, h2, h3]⟩
  rintro ad h j u hu
  obtain rfl := Option.some.inj h
  match j, hu with
  | 0, hu =>
    simp at hu
    subst hu
    simp [Addr.add]
  | 1, hu =>
    simp at hu
    subst hu
    simp [Addr.add]
  | 2, hu =>
    simp at hu
    subst hu
    simp [Addr.add]

/-- The cells of plans. -/
def plC : List (Bool × Nat) → List Value → List Value
  | x :: T, v :: vs => .bool x.1 :: .int .i64 (x.2 : Int) :: v :: plC T vs
  | _, _ => []

theorem plC_push (x : Bool × Nat) (v : Value) : ∀ (T : List (Bool × Nat)) (vs : List Value), vs.length = T.length → plC (T ++ [x]) (vs ++ [v]) = plC T vs ++ [.bool x.1, .int .i64 (x.2 : Int), v]
  | [], [], _ => rfl
  | [], _ :: _, h => by simp at h
  | _ :: _, [], h => by simp at h
  | y :: T, u :: vs, h => by
    have := plC_push x v T vs (by simpa using h)
    simp only [List.cons_append, plC, this]

theorem plC_get : ∀ (T : List (Bool × Nat)) (vs : List Value) (i : Nat) (v : Value), i < T.length → vs[i]? = some v → (plC T vs)[3 * i]? = some (.bool (T.getD i (false, 0)).1) ∧ (plC T vs)[3 * i + 1]? = some (.int .i64 ((T.getD i (false, 0)).2 : Int)) ∧ (plC T vs)[3 * i + 2]? = some v
  | [], _, _, _, h, _ => by simp at h
  | _ :: _, [], _, _, _, h => by simp at h
  | x :: T, u :: vs, 0, v, _, h => by
    simp at h
    subst h
    simp [plC]
  | x :: T, u :: vs, i + 1, v, h1, h2 => by
    have := plC_get T vs i v (by simpa using h1) (by simpa using h2)
    rw [show 3 * (i + 1) = 3 * i + 1 + 1 + 1 by omega]
    simpa [plC] using this

/-- A slice of plans, each with the parts that pf tells of it. -/
def PlR (base : Nat) (w : World) (u : Value) (pf : Bool × Nat → List (Int × Bool)) (T : List (Bool × Nat)) : Prop :=
  ∃ vs : List Value, vs.length = T.length ∧ w.ownsRow base 26 3 u T.length (plC T vs) ∧ ∀ i, i < T.length → ∃ v, vs[i]? = some v ∧ w.ownsRow base 39 2 v (pf (T.getD i (false, 0))).length (pcs (pf (T.getD i (false, 0))))

theorem PlR.nil (base : Nat) (w : World) (pf : Bool × Nat → List (Int × Bool)) : PlR base w (.slice none 0 0) pf [] := ⟨[], rfl, World.ownsRow_nil _ _ _ _, fun _ hi => absurd hi (Nat.not_lt_zero _)⟩

theorem PlR.kept {base : Nat} {w w' : World} {u : Value} {pf : Bool × Nat → List (Int × Bool)} {T : List (Bool × Nat)} (h : PlR base w u pf T) (hk : Kept Nix w w') : PlR base w' u pf T := by
  obtain ⟨vs, h1, h2, h3⟩ := h
  refine ⟨vs, h1, hk.owns h2 (fun _ _ h => h), fun i hi => ?_⟩
  obtain ⟨v, e, ho⟩ := h3 i hi
  exact ⟨v, e, hk.owns ho (fun _ _ h => h)⟩

theorem PlR.push {base : Nat} {w w2 w6 : World} {u u6 v : Value} {pf : Bool × Nat → List (Int × Bool)} {T : List (Bool × Nat)} {x : Bool × Nat} {vs : List Value} (hvl : vs.length = T.length) (h1 : w.ownsRow base 26 3 u T.length (plC T vs))
    (h3 : ∀ i, i < T.length → ∃ v, vs[i]? = some v ∧ w.ownsRow base 39 2 v (pf (T.getD i (false, 0))).length (pcs (pf (T.getD i (false, 0))))) (k2 : Kept Nix w w2)
    (hv : w2.ownsRow base 39 2 v (pf x).length (pcs (pf x))) (ho : w6.ownsRow base 26 3 u6 (T.length + 1) (plC T vs ++ [.bool x.1, .int .i64 (x.2 : Int), v])) (hg : w2.grownBy w6 u.ownBlock) : PlR base w6 u6 pf (T ++ [x]) := by
  have h1' := k2.owns h1 (fun _ _ h => h)
  have keep : ∀ {y : Value} {n : Nat} {xs : List Value}, w2.ownsRow base 39 2 y n xs → w6.ownsRow base 39 2 y n xs := by
    intro y n xs hy
    have hk : Kept (fun k => u.ownBlock = some k) w2 w6 := ⟨hg.os, hg.tape, hg.output, hg.size, fun k hk hn => hg.block k hk (fun e => hn e.symm)⟩
    refine hk.owns hy (fun k hb hs => ?_)
    rcases hy.2 with ⟨rfl, _⟩ | ⟨g, cap, cur, rfl, _, hgg, _⟩
    · cases hb
    · rcases h1'.2 with ⟨rfl, _⟩ | ⟨g', cap', cur', rfl, _, hgg', _⟩
      · cases hs
      · cases hb
        cases hs
        rw [hgg] at hgg'
        simp at hgg'
  refine ⟨vs ++ [v], by simp [hvl], ?_, fun i hi => ?_⟩
  · rw [plC_push x v T vs hvl, List.length_append]
    exact ho
  · by_cases hlt : i < T.length
    · obtain ⟨y, e, hy⟩ := h3 i hlt
      have e2 : (T ++ [x]).getD i (false, 0) = T.getD i (false, 0) := by simp [List.getD, List.getElem?_append_left hlt]
      rw [e2]
      exact ⟨y, by rw [List.getElem?_append_left (by omega)]; exact e, keep (k2.owns hy (fun _ _ h => h))⟩
    · have hie : i = T.length := by simp at hi; omega
      subst hie
      have e2 : (T ++ [x]).getD T.length (false, 0) = x := by simp [List.getD]
      rw [e2]
      exact ⟨v, by rw [← hvl]; simp, keep hv⟩

/-- A plan of them, in any world that kept it. -/
theorem PlR.at {base : Nat} {w : World} {u : Value} {pf : Bool × Nat → List (Int × Bool)} {T : List (Bool × Nat)} (h : PlR base w u pf T) (h0 : 0 < T.length) : ∃ b cap, u = .slice (some ⟨b, 0, none⟩) T.length cap ∧ ∀ i, i < T.length → ∃ uo uc, ∀ w', Kept Nix w w' →
    (w'.cell? ⟨b, i * 3, none⟩ = some (.bool (T.getD i (false, 0)).1) ∧ w'.cell? ⟨b, i * 3 + 1, none⟩ = some (.int .i64 ((T.getD i (false, 0)).2 : Int)) ∧ w'.cell? ⟨b, i * 3 + 2, none⟩ = some (.slice uo (pf (T.getD i (false, 0))).length uc)) ∧
    w'.ownsRow base 39 2 (.slice uo (pf (T.getD i (false, 0))).length uc) (pf (T.getD i (false, 0))).length (pcs (pf (T.getD i (false, 0)))) := by
  obtain ⟨vs, h1, h2, h3⟩ := h
  obtain ⟨b, cap, rfl, -⟩ := owns_pos h2 h0
  refine ⟨b, cap, rfl, fun i hi => ?_⟩
  obtain ⟨v, e, ho⟩ := h3 i hi
  obtain ⟨uo, uc, rfl, -⟩ := owns_shape ho
  refine ⟨uo, uc, fun w' hk => ?_⟩
  have g2 := hk.owns h2 (fun _ _ h => h)
  obtain ⟨p1, p2, p3⟩ := plC_get T vs i _ hi e
  have c1 := g2.cells (g := b) rfl _ _ p1
  have c2 := g2.cells (g := b) rfl _ _ p2
  have c3 := g2.cells (g := b) rfl _ _ p3
  rw [Addr.add_lit, Nat.zero_add, Nat.mul_comm 3 i] at c1 c2 c3
  exact ⟨⟨c1, c2, c3⟩, hk.owns ho (fun _ _ h => h)⟩

end Go.Proofs.Ytliggpidkdiinaa

namespace Go.Proofs.Ytliggpidkdiinaa
open Go.RowKit Bx

noncomputable def rplL2 : Code := (loopAt 6 (Try.f21.body.getD .skip)).getD .skip
noncomputable def rplL3 : Code := (loopAt 13 (Try.f21.body.getD .skip)).getD .skip

def RplA (vl : Value) (k m : Nat) (wide : Bool) (wn : Nat) (vo : Value) (a : Act) : Prop :=
  a.defers = [] ∧ a.tmps.size = 80 ∧ a.tmps[0]? = some vl ∧ a.tmps[1]? = some (.int .i64 (k : Int)) ∧ a.tmps[2]? = some (.int .i64 (m : Int)) ∧ a.tmps[3]? = some (.bool wide) ∧ a.tmps[10]? = some (.int .i64 (wn : Int)) ∧ a.tmps[9]? = some vo

def Rpl3H (vl : Value) (k m : Nat) (wide : Bool) (wn : Nat) (vo : Value) (o g13 : Nat) (a : Act) : Prop :=
  RplA vl k m wide wn vo a ∧ a.tmps[11]? = some (.int .i64 (o : Int)) ∧ a.tmps[13]? = some (.pointer (some ⟨g13, 0, none⟩))

def Rpl3E (vl : Value) (k m : Nat) (wide : Bool) (wn : Nat) (vo : Value) (o g13 : Nat) (wd : Bool) (P : List (List Int)) (w : World) (a : Act) (w' : World) : Prop :=
  Rpl3H vl k m wide wn vo o g13 a ∧ ∃ u, w'.heap[g13]? = some (.cells #[.bool wd, .int .i64 (o : Int), u] 26 (0, 0)) ∧ w'.ownsRow w.heap.size 39 2 u P.length (pcs (bps P (wM wd))) ∧ Kept (One g13) w w'

def Rpl3Inv (vl : Value) (k m : Nat) (wide : Bool) (wn : Nat) (vo : Value) (o g13 : Nat) (vr : Value) (wd : Bool) (P : List (List Int)) (w : World) (a : Act) (w' : World) : Prop :=
  Rpl3H vl k m wide wn vo o g13 a ∧ a.tmps[14]? = some vr ∧ ∃ i : Nat, i ≤ P.length ∧ a.tmps[15]? = some (.int .i64 (i : Int)) ∧
    ∃ u, Hid (w'.heap[g13]? = some (.cells #[.bool wd, .int .i64 (o : Int), u] 26 (0, 0))) ∧ w'.ownsRow w.heap.size 39 2 u i (pcs (bps (P.take i) (wM wd))) ∧ Kept (One g13) w w'

theorem wM_num {wn : Nat} {wd : Bool} (h : wn ≤ 1) (hw : wd = decide (wn = 1)) : wrap64 (16 * (wn : Int)) = 16 * (wn : Int) ∧ wrap64 (14 + 16 * (wn : Int)) = (wM wd : Int) ∧ kk (wM wd : Int) = wM wd := by
  have : wn = 0 ∨ wn = 1 := by omega
  rcases this with rfl | rfl
  · subst hw; exact ⟨w64_in _ (by omega), (w64_in _ (by omega)).trans rfl, by decide⟩
  · subst hw; exact ⟨w64_in _ (by omega), (w64_in _ (by omega)).trans rfl, by decide⟩

set_option maxRecDepth 10000 in
set_option maxHeartbeats 4000000 in
theorem rpl_l3 (vl : Value) (k m : Nat) (wide : Bool) (wn : Nat) (vo : Value) (o g13 : Nat) (ro : Option Addr) (rc : Nat) (wd : Bool) (L : List Int) (C : List Nat) (P : List (List Int)) (hP : pcz L C = P) (a : Act) (wb ws w : World) (Q : Exit → Act → World → Prop)
    (hh : Rpl3H vl k m wide wn vo o g13 a) (h14 : a.tmps[14]? = some (.slice ro P.length rc)) (h15 : a.tmps[15]? = some (.int .i64 0))
    (hx : w.heap[g13]? = some (.cells #[.bool wd, .int .i64 (o : Int), .slice none 0 0] 26 (0, 0))) (hch : SplitOf L C wb ws (.slice ro P.length rc) w) (hkb : Kept Nix wb w) (hgb : wb.heap.size ≤ g13) (hgs : g13 < ws.heap.size)
    (hwn : wn ≤ 1) (hwd : wd = decide (wn = 1)) (hle : P.length ≤ 32768) (hF : Fine P)
    (hQ : ∀ a' w', Rpl3E vl k m wide wn vo o g13 wd P w a' w' → Q (.exit 4) a' w') : Code.wp Try.prog rplL3 Q a w := by
  have CH := Lib.hid (show ∀ w', Kept (One g13) w w' → Chs w' (.slice ro P.length rc) P from fun w' hk => by
    rw [← hP] at hch ⊢
    exact (hch.kept hk (fun kk h1 h2 => by have h2 : kk = g13 := h2; omega)).chs (hkb.trans hk (fun _ h => h) (fun j hj h => by have h : j = g13 := h; omega)))
  have HX := Lib.hid hx
  have HG := Lib.hid (show g13 < w.heap.size from (Array.getElem?_eq_some_iff.1 hx).1)
  have HLE := Lib.hid hle
  have HQ := Lib.hid hQ
  have HN := Lib.hid (wM_num hwn hwd)
  have EB := Lib.hid (fun (i : Nat) (hi : i < P.length) v' w' (h : Sl w' v' (ivs (P.getD i []))) => rcbest_any v' (P.getD i []) (wM wd : Int) w' h (hF.get hi).2)
  rw [HN.out.2.2] at EB
  obtain ⟨n, hn⟩ : ∃ n, P.length = n := ⟨_, rfl⟩
  have HP := Lib.hid hn
  rw [hn] at h14 CH EB HLE
  clear hch hx hle hQ hwn hwd hF hn hkb hgb hgs hP
  refine wp_loop (Rpl3Inv vl k m wide wn vo o g13 (.slice ro n rc) wd P w) (fun a _ => n - (intOf (a.tmps.getD 15 undef)).toNat) ?_ ?_
  · exact ⟨hh, h14, 0, Nat.zero_le _, h15, _, HX, World.ownsRow_nil _ _ _ _, Kept.refl _ _⟩
  · clear hh h14 h15 HX
    rintro ⟨tm, df⟩ w3 ⟨⟨⟨rfl, hs, e0, e1, e2, e3, e10, e9⟩, e11, e13⟩, e14, i, hi, e15, u, h10, ho, hk⟩
    simp only at hs e0 e1 e2 e3 e10 e9 e11 e13 e14 e15
    rw [HP.out] at hi
    obtain ⟨f, hf, hg⟩ := fr_open hs
    have g0 := hg _ _ e0
    have g1 := hg _ _ e1
    have g2 := hg _ _ e2
    have g3 := hg _ _ e3
    have g10 := hg _ _ e10
    have g9 := hg _ _ e9
    have g11 := hg _ _ e11
    have g13' := hg _ _ e13
    have g14 := hg _ _ e14
    have g15 := hg _ _ e15
    simp only [List.range, List.range.loop, List.map] at hf
    rw [g0, g1, g2, g3, g10, g9, g11, g13', g14, g15] at hf
    clear g0 g1 g2 g3 g10 g9 g11 g13' g14 g15 hg hs e0 e1 e2 e3 e10 e9 e11 e13 e14 e15
    subst hf
    have H10 := Lib.hid h10.out
    have HO := Lib.hid ho
    have HK := Lib.hid hk
    clear h10 ho hk
    by_cases hlt : i < n
    · have hdd : decide (i < n) = true := decide_eq_true hlt
      have hi1 : (i : Int) < (n : Int) := by omega
      have hch3 := CH.out w3 HK.out
      obtain ⟨b2, o2, rfl, ro2, rc2, hc2⟩ := hch3.row i (by rw [HP.out]; exact hlt)
      obtain ⟨r1, r2⟩ := hc2 w3 (Kept.refl _ _)
      have EI := Lib.hid (EB.out i hlt _ _ r2)
      unfold bestV at EI
      have HBS := Lib.hid (bps_step P (wM wd) i (by rw [HP.out]; exact hlt))
      have e1 := HN.out.1
      have e2 := HN.out.2.1
      have HI := Lib.hid hlt
      have HW := Lib.hid (show wrap64 ((i : Int) + 1) = ((i + 1 : Nat) : Int) by have := HLE.out; rw [w64_in _ (by omega)]; omega)
      have E5 := Lib.hid (show i + 1 ≤ maxLen ∧ (i + 1) * 16 ≤ 140737488355328 by have := HLE.out; simp only [maxLen]; omega)
      clear hc2 r2 hlt hi hch3 EB
      generalize P.getD i [] = R at *
      generalize bestK R (wM wd) = bk' at *
      generalize bestR R (wM wd) = br' at *
      generalize bestN R (wM wd) = bn' at *
      generalize bestE R = be' at *
      generalize R.length = rl at *
      go_upto_region 16 with (go_at_call 36; refine EI.out.mono ?_; rintro e w4 ⟨rfl, k4⟩; have K4 := Lib.hid k4; clear k4 EI)
      have PC := Lib.hid (part_cells w4 bk' br' 39)
      have K5 := Lib.hid (nix_trans K4.out ((Kept.refl Nix w4).alloc (.cells #[.int .i64 bk', .bool br'] 39)))
      generalize w4.alloc (.cells #[.int .i64 bk', .bool br'] 39) = w5 at *
      generalize w4.heap.size = g16 at *
      obtain ⟨p1, p2, p3⟩ := PC.out w5 (Kept.refl _ _)
      have hh5 := K5.out.heap H10.out id
      have y2 : w5.cell? ⟨g13, 2, none⟩ = some u := (cell_of hh5).trans rfl
      have O5 := Lib.hid ((K5.out.owns HO.out (fun _ _ h => h)).alloc (.cells #[.int .i64 bk', .bool br'] 39))
      have K6 := Lib.hid (K5.out.alloc (.cells #[.int .i64 bk', .bool br'] 39))
      have HBSZ := Lib.hid (show w.heap.size ≤ (w5.alloc (.cells #[.int .i64 bk', .bool br'] 39)).heap.size from Nat.le_trans HK.out.size K6.out.size)
      have KW6 := Lib.hid (HK.out.trans K6.out (fun _ h => h) (fun _ _ h => absurd h id))
      have H10B := Lib.hid (K6.out.heap H10.out id)
      have HLT6 := Lib.hid (Array.getElem?_eq_some_iff.1 H10B.out).1
      have HUN := Lib.hid (show u.ownBlock ≠ some g13 from fun h => by have := (own_lt HO.out h).1; have := HG.out; omega)
      have HUL := Lib.hid (fun kk (h : u.ownBlock = some kk) => (own_lt HO.out h).1)
      clear p3 hh5 hdd PC r1 hi1 e1 e2
      go_wp2_with (
        refine wpList_app _ rfl _ _ 24 rfl w.heap.size 39 (.agg #[.int .i64 0, .bool false]) 2 16 Try.underlying24 info_part rfl (by decide) _ _ _ rfl O5.out _ 1 1 [.int .i64 bk', .bool br'] rfl (src_part w5 _ _ _ rfl rfl) E5.out.1 E5.out.2 HBSZ.out ?_
        intro v6 w6 o6 g6x n6
        have k6 : Kept (One g13) w w6 := KW6.out.grown g6x (fun kk hkk => .inr (HUL.out kk hkk))
        have h6 := (g6x.block g13 HLT6.out (fun e => HUN.out e.symm)).trans H10B.out
        have z2 := frozen_of (i := 2) h6
        have c2' := (cell_of (i := 2) h6).trans rfl
        obtain ⟨vo, vc, rfl, -⟩ := owns_shape o6
        have KK6 := Lib.hid k6; have O6 := Lib.hid o6; have HH6 := Lib.hid h6; clear k6 o6 g6x n6 h6)
      rw [HW.out]
      refine ⟨⟨⟨⟨rfl, rfl, rfl, rfl, rfl, rfl, rfl, rfl⟩, rfl, rfl⟩, rfl, i + 1, by rw [HP.out]; exact HI.out, rfl, .slice vo (i + 1) vc, Lib.hid (heap_set HH6.out), ?_, KK6.out.setCell (p := ⟨g13, 2, none⟩) (.inl rfl) _⟩, nearer HI.out rfl⟩
      rw [HBS.out, pcs_append]
      refine ((Kept.refl (One g13) w6).setCell (p := ⟨g13, 2, none⟩) (.inl rfl) _).owns O6.out (fun kk hkk he => ?_)
      have := (own_lt O6.out hkk).1
      have := HG.out
      have h : kk = g13 := he
      omega
    · have hie : i = n := by omega
      subst hie
      have hdd : decide (i < i) = false := decide_eq_false hlt
      have HT := Lib.hid (show P.take i = P by rw [← HP.out, List.take_length])
      rw [HT.out] at HO
      clear hlt hi
      go_wp2
      exact HQ.out _ _ ⟨⟨⟨rfl, rfl, rfl, rfl, rfl, rfl, rfl, rfl⟩, rfl, rfl⟩, u, H10.out, by rw [HP.out]; exact HO.out, HK.out⟩

end Go.Proofs.Ytliggpidkdiinaa

namespace Go.Proofs.Ytliggpidkdiinaa
open Go.RowKit Bx

/-- The plans of one width up to o. -/
def tw (wd skip : Bool) (F o : Nat) : List (Bool × Nat) := if skip = true then [] else (List.range (min o (F + 1))).map (fun i => (wd, i))

theorem tw_zero (wd s : Bool) (F : Nat) : tw wd s F 0 = [] := by cases s <;> simp [tw]
theorem tw_skip (wd : Bool) (F o : Nat) : tw wd true F o = [] := rfl
theorem tw_no {F o : Nat} (wd s : Bool) (h : F < o) : tw wd s F (o + 1) = tw wd s F o := by
  unfold tw
  rw [show min (o + 1) (F + 1) = F + 1 by omega, show min o (F + 1) = F + 1 by omega]
theorem tw_yes {F o : Nat} (wd : Bool) (h : o ≤ F) : tw wd false F (o + 1) = tw wd false F o ++ [(wd, o)] := by
  unfold tw
  rw [show min (o + 1) (F + 1) = o + 1 by omega, show min o (F + 1) = o by omega]
  simp [List.range_succ]
theorem tw_len (wd s : Bool) (F o : Nat) : (tw wd s F o).length ≤ o := by
  unfold tw
  split
  · exact Nat.zero_le _
  · simp; omega

def plF (L : List Int) (k : Nat) (x : Bool × Nat) : List (Int × Bool) := plP L k x.1 x.2

def Rpl2Inv (vl : Value) (L : List Int) (k m : Nat) (wide : Bool) (wn : Nat) (wd : Bool) (T0 : List (Bool × Nat)) (wz : World) (a : Act) (w' : World) : Prop :=
  ∃ (uo : Option Addr) (uc : Nat) (o : Nat), RplA vl k m wide wn (.slice uo (T0 ++ tw wd (wd && !wide) (fin L.length k m) o).length uc) a ∧ o ≤ m + 1 ∧ a.tmps[11]? = some (.int .i64 (o : Int)) ∧
    PlR wz.heap.size w' (.slice uo (T0 ++ tw wd (wd && !wide) (fin L.length k m) o).length uc) (plF L k) (T0 ++ tw wd (wd && !wide) (fin L.length k m) o) ∧ Kept Nix wz w'

theorem PlR.shape {base : Nat} {w : World} {u : Value} {pf : Bool × Nat → List (Int × Bool)} {T : List (Bool × Nat)} (h : PlR base w u pf T) : ∃ uo uc, u = .slice uo T.length uc := by
  obtain ⟨vs, h1, h2, h3⟩ := h
  obtain ⟨uo, uc, e, -⟩ := owns_shape h2
  exact ⟨uo, uc, e⟩

theorem cut_fin {n k m o : Nat} (ho : o ≤ m) (h : cutOk n k o = true) : o ≤ fin n k m := by
  rcases Nat.lt_or_ge (fin n k m) o with hh | hh
  · rw [fin_no hh ho] at h; cases h
  · exact hh
theorem fin_cut {n k m o : Nat} (h0 : 0 < n) (h : cutOk n k o = false) : fin n k m < o := by
  rcases Nat.lt_or_ge (fin n k m) o with hh | hh
  · exact hh
  · rw [cutOk_le (fin_ok h0 m) hh] at h; cases h

set_option maxRecDepth 10000 in
set_option maxHeartbeats 8000000 in
theorem rpl_l2 (vl : Value) (L : List Int) (k m : Nat) (wide : Bool) (wn : Nat) (wd : Bool) (vo : Value) (T0 : List (Bool × Nat)) (a : Act) (wz w : World) (Q : Exit → Act → World → Prop)
    (hh : RplA vl k m wide wn vo a) (h11 : a.tmps[11]? = some (.int .i64 0)) (hv : Sl wz vl (ivs L)) (hk : Kept Nix wz w) (hT : PlR wz.heap.size w vo (plF L k) T0) (hT0 : T0.length ≤ 16)
    (hwn : wn ≤ 1) (hwd : wd = decide (wn = 1)) (hl : L.length ≤ 1048576) (hn : nrs L = true) (h0 : 0 < L.length) (hk32 : k ≤ 1048576) (hm : m ≤ 8)
    (hQ : ∀ a' w' vo', RplA vl k m wide wn vo' a' → PlR wz.heap.size w' vo' (plF L k) (T0 ++ tw wd (wd && !wide) (fin L.length k m) (m + 1)) → Kept Nix wz w' → Q (.exit 2) a' w') : Code.wp Try.prog rplL2 Q a w := by
  obtain ⟨ao, ac, rfl, -⟩ := hv.ints
  have HV := Lib.hid hv
  have HQ := Lib.hid hQ
  have HB := Lib.hid (And.intro hl (And.intro hk32 (And.intro hm hT0)))
  have HNR := Lib.hid hn
  have H0 := Lib.hid h0
  have HWN := Lib.hid (And.intro hwn hwd)
  obtain ⟨uo, uc, rfl⟩ := hT.shape
  refine wp_loop (Rpl2Inv (.slice ao L.length ac) L k m wide wn wd T0 wz) (fun a _ => m + 1 - (intOf (a.tmps.getD 11 undef)).toNat) ?_ ?_
  · refine ⟨uo, uc, 0, ?_, Nat.zero_le _, h11, ?_, hk⟩
    · rw [tw_zero, List.append_nil]; exact hh
    · rw [tw_zero, List.append_nil]; exact hT
  · clear hh h11 hk hT hQ hl hk32 hm hT0 hn h0 hwn hwd hv
    rintro ⟨tm, df⟩ w2 ⟨uo, uc, o, ⟨rfl, hs, e0, e1, e2, e3, e10, e9⟩, ho, e11, hT, hk⟩
    simp only at hs e0 e1 e2 e3 e10 e9 e11
    obtain ⟨f, hf, hg⟩ := fr_open hs
    have g0 := hg _ _ e0
    have g1 := hg _ _ e1
    have g2 := hg _ _ e2
    have g3 := hg _ _ e3
    have g10 := hg _ _ e10
    have g9 := hg _ _ e9
    have g11 := hg _ _ e11
    simp only [List.range, List.range.loop, List.map] at hf
    rw [g0, g1, g2, g3, g10, g9, g11] at hf
    clear g0 g1 g2 g3 g10 g9 g11 hg hs e0 e1 e2 e3 e10 e9 e11
    subst hf
    have HT := Lib.hid hT
    have HK := Lib.hid hk
    clear hT hk
    by_cases hlt : o ≤ m
    · have hdd : decide (o ≤ m) = true := decide_eq_true hlt
      have HO := Lib.hid hlt
      have HW := Lib.hid (show wrap64 ((o : Int) + 1) = ((o + 1 : Nat) : Int) by have := HB.out.2.2.1; rw [w64_in _ (by omega)]; omega)
      have CU := Lib.hid (rcuts_any L.length k o w2 HB.out.1 HB.out.2.1 (by have := HB.out.2.2.1; omega))
      unfold CutsPost at CU
      rw [ctI_nat] at CU
      cases hc : cutOk L.length k o with
      | false =>
        rw [cts_none hc] at CU
        have HE := Lib.hid (show T0 ++ tw wd (wd && !wide) (fin L.length k m) (o + 1) = T0 ++ tw wd (wd && !wide) (fin L.length k m) o by rw [tw_no wd (wd && !wide) (fin_cut (m := m) H0.out hc)])
        clear hc ho hlt
        generalize T0 ++ tw wd (wd && !wide) (fin L.length k m) o = T at *
        go_wp2_with (go_at_call 34; refine CU.out.mono ?_; rintro e w3 ⟨u3, rfl, o3, k3⟩; obtain ⟨vo3, vc3, rfl, -⟩ := owns_shape o3; have K3 := Lib.hid k3; clear o3 k3 CU)
        rw [HW.out]
        refine ⟨⟨uo, uc, o + 1, ?_, by have := HO.out; omega, rfl, ?_, nix_trans HK.out K3.out⟩, nearer (Nat.lt_succ_of_le HO.out) rfl⟩
        · rw [HE.out]; exact ⟨rfl, rfl, rfl, rfl, rfl, rfl, rfl, rfl⟩
        · rw [HE.out]; exact HT.out.kept K3.out
      | true =>
        have hp := Nat.two_pow_pos o
        rw [← cts_length hc] at hp
        have t0 : (((cts L.length k o).length : Int) == 0) = false := by rw [beq_eq_false_iff_ne]; omega
        have HCL := Lib.hid hp
        have HC := Lib.hid hc
        have HF := Lib.hid (cut_fin hlt hc)
        have HTL := Lib.hid (show (T0 ++ tw wd (wd && !wide) (fin L.length k m) o).length ≤ 32 by
          have := tw_len wd (wd && !wide) (fin L.length k m) o
          have := HB.out.2.2.1
          have := HB.out.2.2.2
          rw [List.length_append]
          omega)
        have HSK := Lib.hid (fun (h : (wd && !wide) = true) => show T0 ++ tw wd (wd && !wide) (fin L.length k m) (o + 1) = T0 ++ tw wd (wd && !wide) (fin L.length k m) o by rw [h, tw_skip, tw_skip])
        have HYE := Lib.hid (fun (h : (wd && !wide) = false) => show T0 ++ tw wd (wd && !wide) (fin L.length k m) (o + 1) = (T0 ++ tw wd (wd && !wide) (fin L.length k m) o) ++ [(wd, o)] by rw [h, tw_yes wd HF.out, List.append_assoc])
        have SP := Lib.hid (fun vc w3 w4 (h : Kept Nix wz w3) (hc : Sl w4 vc (ivs (ni (cts L.length k o)))) => rsplit_at L (cts L.length k o) _ vc w3 w4 (HV.out.nix h) hc (cts_sum_le _ _ _) HB.out.1 (cts_length_le _ _ _))
        have FI := Lib.hid (fine_plS HNR.out HB.out.1 k o)
        have hcl := cts_length_le L.length k o
        have hpl : (plS L k o).length = (cts L.length k o).length := pcz_length _ _
        have HPL := Lib.hid (And.intro hcl hpl)
        clear hc ho hlt hp hcl hpl
        generalize hTT : T0 ++ tw wd (wd && !wide) (fin L.length k m) o = T at *
        clear hTT
        generalize hcc : (cts L.length k o).length = cl at *
        clear hcc
        go_upto_region 9 with (go_at_call 34; refine CU.out.mono ?_; rintro e w3 ⟨u3, rfl, o3, k3⟩; obtain ⟨vo3, vc3, rfl, -⟩ := owns_shape o3; have K3 := Lib.hid k3; have O3 := Lib.hid o3; clear o3 k3 CU)
        have hww := HWN.out
        have t1 : ((wn : Int) == 1) = wd := by
          rw [hww.2, Bool.eq_iff_iff]
          simp
          omega
        clear hww
        by_cases hsk : (wd && !wide) = true
        · have HE := Lib.hid (HSK.out hsk)
          have hwd : wd = true := by cases wd <;> simp_all
          have hwi : wide = false := by cases wide <;> simp_all
          clear hsk HSK HYE SP FI HC
          subst hwi
          rw [hwd] at t1
          have HWD := Lib.hid hwd
          clear hwd
          go_wp2
          rw [HW.out]
          refine ⟨⟨uo, uc, o + 1, ?_, by have := HO.out; omega, rfl, ?_, nix_trans HK.out K3.out⟩, nearer (Nat.lt_succ_of_le HO.out) rfl⟩
          · rw [HE.out]; exact ⟨rfl, rfl, rfl, rfl, rfl, rfl, rfl, rfl⟩
          · rw [HE.out]; exact HT.out.kept K3.out
        · have HE := Lib.hid (HYE.out (by simpa using hsk))
          obtain ⟨w4, hw4⟩ : ∃ w4, w4 = w3.alloc (.cells #[.bool wd, .int .i64 (o : Int), .slice none 0 0] 26) := ⟨_, rfl⟩
          have HW4 := Lib.hid hw4
          have H4 := Lib.hid (show w4.heap[w3.heap.size]? = some (.cells #[.bool wd, .int .i64 (o : Int), .slice none 0 0] 26 (0, 0)) by rw [hw4]; exact heap_alloc_new _ _)
          have K4 := Lib.hid (show Kept Nix w3 w4 by rw [hw4]; exact (Kept.refl _ _).alloc _)
          have Z4 := Lib.hid (show w3.heap.size < w4.heap.size by rw [hw4]; simp)
          have S4 := Lib.hid (SP.out _ w3 w4 (nix_trans HK.out K3.out) (sl_of_owns (K4.out.owns O3.out (fun _ _ h => h))))
          have Z3 := Lib.hid K3.out.size
          have M3 := Lib.hid (show T.length + 1 ≤ maxLen by have := HTL.out; simp only [maxLen]; omega)
          have M4 := Lib.hid (show (T.length + 1) * 40 ≤ 140737488355328 by have := HTL.out; omega)
          have hyes : wd = false ∨ (wd = true ∧ wide = true) := by cases wd <;> cases wide <;> simp_all
          clear hsk HSK HYE SP hw4 O3
          rcases hyes with hwd | ⟨hwd, hwi⟩
          all_goals
            rw [hwd] at t1
            (try subst hwi)
            have HWD := Lib.hid hwd
            rw [hwd] at HW4
            clear hwd
            go_upto_region 11 with fail
            rw [← HW4.out]
            clear t0 t1 HW4
            obtain ⟨g13, hg13⟩ : ∃ g13, w3.heap.size = g13 := ⟨_, rfl⟩
            have HG := Lib.hid hg13
            rw [hg13]
            clear hg13
            go_wp2_with (go_at_call 35; refine S4.out.mono ?_; rintro e w5 ⟨u5, rfl, sp5, k5⟩; have K5 := Lib.hid k5; have SP5 := Lib.hid sp5; obtain ⟨ro, rc, rfl, -⟩ := (sp5.chs (nix_trans K4.out k5)).open; clear sp5 k5 S4)
            refine rpl_l3 (.slice ao L.length ac) k m _ wn (.slice uo T.length uc) o g13 ro rc wd L (cts L.length k o) (plS L k o) rfl _ w3 w4 w5 _ ⟨⟨rfl, rfl, rfl, rfl, rfl, rfl, rfl, rfl⟩, rfl, rfl⟩ rfl rfl (by rw [← HG.out]; exact K5.out.heap H4.out id) SP5.out (nix_trans K4.out K5.out) (Nat.le_of_eq HG.out) (by rw [← HG.out]; exact Z4.out) HWN.out.1 HWN.out.2 (by rw [HPL.out.2]; exact HPL.out.1) FI.out ?_
            rintro ⟨tm, df⟩ w6 ⟨⟨⟨rfl, hs, e0, e1, e2, e3, e10, e9⟩, e11, e13⟩, u, hx6, ho6, hk6⟩
            simp only at hs e0 e1 e2 e3 e10 e9 e11 e13
            obtain ⟨f, hf, hg⟩ := fr_open hs
            have g0 := hg _ _ e0
            have g1 := hg _ _ e1
            have g2 := hg _ _ e2
            have g3 := hg _ _ e3
            have g10 := hg _ _ e10
            have g9 := hg _ _ e9
            have g11 := hg _ _ e11
            have g13' := hg _ _ e13
            simp only [List.range, List.range.loop, List.map] at hf
            rw [g0, g1, g2, g3, g10, g9, g11, g13'] at hf
            clear g0 g1 g2 g3 g10 g9 g11 g13' hg hs e0 e1 e2 e3 e10 e9 e11 e13
            subst hf
            obtain ⟨uo6, uc6, rfl, -⟩ := owns_shape ho6
            obtain ⟨x0, x1, x2⟩ := cells_three hx6
            have K26 := Lib.hid ((nix_trans K3.out (nix_trans K4.out K5.out)).trans hk6 (fun _ h => h) (fun j hj h => by have h : j = g13 := h; have := HG.out; have := Z3.out; omega))
            have O6 := Lib.hid (show w6.ownsRow wz.heap.size 39 2 (.slice uo6 (plS L k o).length uc6) (plF L k (wd, o)).length (pcs (plF L k (wd, o))) by
              rw [show (plF L k (wd, o)).length = (plS L k o).length from bps_length _ _]
              exact owns_base ho6 (Nat.le_trans HK.out.size (Nat.le_trans K3.out.size (Nat.le_trans K4.out.size K5.out.size))))
            obtain ⟨vs, hvl, h1, h3⟩ := HT.out
            have HVL := Lib.hid hvl
            have HH1 := Lib.hid h1
            have HH3 := Lib.hid h3
            have O7 := Lib.hid ((K26.out.owns h1 (fun _ _ h => h)).alloc (.cells #[.bool wd, .int .i64 (o : Int), .slice uo6 (plS L k o).length uc6] 26))
            have K7 := Lib.hid (K26.out.alloc (.cells #[.bool wd, .int .i64 (o : Int), .slice uo6 (plS L k o).length uc6] 26))
            have O67 := Lib.hid (O6.out.alloc (.cells #[.bool wd, .int .i64 (o : Int), .slice uo6 (plS L k o).length uc6] 26))
            have HBS := Lib.hid (show wz.heap.size ≤ (w6.alloc (.cells #[.bool wd, .int .i64 (o : Int), .slice uo6 (plS L k o).length uc6] 26)).heap.size from Nat.le_trans HK.out.size K7.out.size)
            clear hx6 ho6 hk6 hvl h1 h3 HT SP5 H4 K4 Z4 K5 FI
            generalize hpn : (plS L k o).length = pn at *
            clear hpn
            go_wp2_with (
              refine wpList_app _ rfl _ _ 54 rfl wz.heap.size 26 (.agg #[.bool false, .int .i64 0, .slice none 0 0]) 3 40 Try.underlying54 info_plan rfl (by decide) _ _ _ rfl O7.out _ 1 1 [.bool wd, .int .i64 (o : Int), .slice uo6 pn uc6] rfl (src_plan w6 _ _ _ _ rfl rfl rfl) M3.out M4.out HBS.out ?_
              intro v8 w8 o8 g8 n8
              have k8 : Kept Nix wz w8 := (nix_trans HK.out K7.out).grown g8 (fun kk hkk => .inr (O7.out.lt kk hkk).1)
              have r8 := PlR.push HVL.out HH1.out HH3.out K7.out O67.out o8 g8
              obtain ⟨vo8, vc8, rfl, -⟩ := owns_shape o8
              have K8 := Lib.hid k8; have R8 := Lib.hid r8; clear k8 r8 o8 g8 n8)
            rw [HW.out]
            refine ⟨⟨vo8, vc8, o + 1, ?_, by have := HO.out; omega, rfl, ?_, K8.out⟩, nearer (Nat.lt_succ_of_le HO.out) rfl⟩
            · rw [HE.out, List.length_append]; exact ⟨rfl, rfl, rfl, rfl, rfl, rfl, rfl, rfl⟩
            · rw [HE.out, List.length_append]; exact R8.out
    · have hoe : o = m + 1 := by omega
      subst hoe
      have hdd : decide (m + 1 ≤ m) = false := decide_eq_false (by omega)
      clear hlt ho
      generalize hm1 : m + 1 = m1 at *
      clear hm1
      go_wp2
      exact HQ.out _ _ _ ⟨rfl, rfl, rfl, rfl, rfl, rfl, rfl, rfl⟩ HT.out HK.out

end Go.Proofs.Ytliggpidkdiinaa

namespace Go.Proofs.Ytliggpidkdiinaa
open Go.RowKit Bx

def twT (wide : Bool) (F m wn : Nat) : List (Bool × Nat) := (if 1 ≤ wn then tw false (false && !wide) F (m + 1) else []) ++ (if 2 ≤ wn then tw true (true && !wide) F (m + 1) else [])

theorem twT_zero (wide : Bool) (F m : Nat) : twT wide F m 0 = [] := rfl
theorem twT_next (wide : Bool) (F m wn : Nat) (wd : Bool) (h : wn ≤ 1) (hw : wd = decide (wn = 1)) : twT wide F m wn ++ tw wd (wd && !wide) F (m + 1) = twT wide F m (wn + 1) := by
  have : wn = 0 ∨ wn = 1 := by omega
  rcases this with rfl | rfl
  · subst hw
    simp [twT]
  · subst hw
    simp [twT]

/-- How many plans there are. -/
def plM (wide : Bool) (F : Nat) : Nat := if wide = true then 2 * F + 2 else F + 1

theorem twT_all (wide : Bool) {F m : Nat} (h : F ≤ m) : twT wide F m 2 = (List.range (plM wide F)).map (plG F) := by
  have e1 : (List.range (F + 1)).map (fun i => (false, i)) = (List.range (F + 1)).map (plG F) := List.map_congr_left (fun i hi => by
    have := List.mem_range.1 hi
    unfold plG
    rw [if_pos (by omega)])
  have e2 : (List.range (F + 1)).map (fun i => (true, i)) = (List.range (F + 1)).map (fun i => plG F (F + 1 + i)) := List.map_congr_left (fun i _ => by
    unfold plG
    rw [if_neg (by omega), show F + 1 + i - F - 1 = i by omega])
  have e3 : min (m + 1) (F + 1) = F + 1 := by omega
  unfold twT plM
  rw [if_pos (show (1 : Nat) ≤ 2 by omega), if_pos (show (2 : Nat) ≤ 2 by omega)]
  unfold tw
  rw [e3, if_neg (show ¬ (false && !wide) = true by simp)]
  cases wide with
  | false =>
    rw [if_pos (show (true && !false) = true from rfl), if_neg (show ¬ false = true by simp), List.append_nil]
    exact e1
  | true =>
    rw [if_neg (show ¬ (true && !true) = true by simp), if_pos rfl, e1, e2, show 2 * F + 2 = (F + 1) + (F + 1) by omega, show List.range ((F + 1) + (F + 1)) = List.range (F + 1) ++ (List.range (F + 1)).map (fun x => F + 1 + x) from List.range_add, List.map_append, List.map_map]
    rfl

theorem twT_len (wide : Bool) (F m wn : Nat) (hm : m ≤ 8) (hwn : wn ≤ 1) : (twT wide F m wn).length ≤ 16 := by
  unfold twT
  have h1 := tw_len false (false && !wide) F (m + 1)
  rw [if_neg (show ¬ 2 ≤ wn by omega), List.append_nil]
  split
  · omega
  · exact Nat.zero_le _

def Rpl1Inv (vl : Value) (L : List Int) (k m : Nat) (wide : Bool) (wz : World) (a : Act) (w' : World) : Prop :=
  ∃ (uo : Option Addr) (uc wn : Nat), RplA vl k m wide wn (.slice uo (twT wide (fin L.length k m) m wn).length uc) a ∧ wn ≤ 2 ∧
    PlR wz.heap.size w' (.slice uo (twT wide (fin L.length k m) m wn).length uc) (plF L k) (twT wide (fin L.length k m) m wn) ∧ Kept Nix wz w'

set_option maxRecDepth 10000 in
set_option maxHeartbeats 4000000 in
theorem rplans_any (vl : Value) (L : List Int) (k m : Nat) (wide : Bool) (w : World) (hv : Sl w vl (ivs L)) (hl : L.length ≤ 1048576) (hn : nrs L = true) (h0 : 0 < L.length) (hk : k ≤ 1048576) (hm : m ≤ 8) :
    Calls Try.prog 21 #[vl, .int .i64 (k : Int), .int .i64 (m : Int), .bool wide] w fun e w' => ∃ u, e = .returned u ∧ PlR w.heap.size w' u (plF L k) ((List.range (plM wide (fin L.length k m))).map (plG (fin L.length k m))) ∧ Kept Nix w w' := by
  obtain ⟨ao, ac, rfl, -⟩ := hv.ints
  have L2 := Lib.hid (fun wn wd vo a w1 Q (hh : RplA (.slice ao L.length ac) k m wide wn vo a) (h11 : a.tmps[11]? = some (.int .i64 0)) (h1 : Kept Nix w w1) (hT : PlR w.heap.size w1 vo (plF L k) (twT wide (fin L.length k m) m wn)) (hwn : wn ≤ 1) (hwd : wd = decide (wn = 1)) hQ => rpl_l2 _ L k m wide wn wd vo (twT wide (fin L.length k m) m wn) a w w1 Q hh h11 hv h1 hT (twT_len _ _ _ _ hm hwn) hwn hwd hl hn h0 hk hm hQ)
  rw [← twT_all wide (fin_le L.length k m)]
  clear hv hl hn h0 hk hm
  go_enter Try.func21, Try.ntmps21
  go_wp2
  refine wp_loop (Rpl1Inv (.slice ao L.length ac) L k m wide w) (fun a _ => 2 - (intOf (a.tmps.getD 10 undef)).toNat) ?_ ?_
  · exact ⟨none, 0, 0, ⟨rfl, rfl, rfl, rfl, rfl, rfl, rfl, rfl⟩, by omega, PlR.nil _ _ _, Kept.refl _ _⟩
  · rintro ⟨tm, df⟩ w2 ⟨uo, uc, wn, ⟨rfl, hs, e0, e1, e2, e3, e10, e9⟩, hwn, hT, hk⟩
    simp only at hs e0 e1 e2 e3 e10 e9
    obtain ⟨f, hf, hg⟩ := fr_open hs
    have g0 := hg _ _ e0
    have g1 := hg _ _ e1
    have g2 := hg _ _ e2
    have g3 := hg _ _ e3
    have g10 := hg _ _ e10
    have g9 := hg _ _ e9
    simp only [List.range, List.range.loop, List.map] at hf
    rw [g0, g1, g2, g3, g10, g9] at hf
    clear g0 g1 g2 g3 g10 g9 hg hs e0 e1 e2 e3 e10 e9
    subst hf
    have HT := Lib.hid hT
    have HK := Lib.hid hk
    clear hT hk
    by_cases hlt : wn < 2
    · have hdd : decide ((wn : Int) < 2) = true := decide_eq_true (by omega)
      have HW := Lib.hid (show wrap64 ((wn : Int) + 1) = ((wn + 1 : Nat) : Int) by rw [w64_in _ (by omega)]; omega)
      have HI := Lib.hid hlt
      have HNX := Lib.hid (twT_next wide (fin L.length k m) m wn (decide (wn = 1)) (by omega) rfl)
      clear hlt hwn
      go_wp2
      refine L2.out wn (decide (wn = 1)) _ _ w2 _ ⟨rfl, rfl, rfl, rfl, rfl, rfl, rfl, rfl⟩ rfl HK.out HT.out (Nat.le_of_lt_succ HI.out) rfl ?_
      rintro ⟨tm, df⟩ w3 vo' ⟨rfl, hs, e0, e1, e2, e3, e10, e9⟩ hT hk
      rw [HNX.out] at hT
      obtain ⟨uo', uc', rfl⟩ := hT.shape
      simp only at hs e0 e1 e2 e3 e10 e9
      obtain ⟨f, hf, hg⟩ := fr_open hs
      have g0 := hg _ _ e0
      have g1 := hg _ _ e1
      have g2 := hg _ _ e2
      have g3 := hg _ _ e3
      have g10 := hg _ _ e10
      have g9 := hg _ _ e9
      simp only [List.range, List.range.loop, List.map] at hf
      rw [g0, g1, g2, g3, g10, g9] at hf
      clear g0 g1 g2 g3 g10 g9 hg hs e0 e1 e2 e3 e10 e9
      subst hf
      have HT' := Lib.hid hT
      have HK' := Lib.hid hk
      clear hT hk HT HNX hdd
      go_wp2
      rw [HW.out]
      exact ⟨⟨uo', uc', wn + 1, ⟨rfl, rfl, rfl, rfl, rfl, rfl, rfl, rfl⟩, HI.out, HT'.out, HK'.out⟩, nearer HI.out rfl⟩
    · have hie : wn = 2 := by omega
      subst hie
      have hdd : decide (((2 : Nat) : Int) < 2) = false := by decide
      clear hlt hwn
      go_wp2
      go_ret
      exact ⟨_, rfl, HT.out, HK.out⟩

end Go.Proofs.Ytliggpidkdiinaa

namespace Go.Proofs.Ytliggpidkdiinaa
open Go.RowKit Bx

noncomputable def rpbL : Code := (loopAt 12 (Try.f22.body.getD .skip)).getD .skip

def RpbH (g5 : Nat) (vr : Value) (wd : Bool) (a : Act) : Prop :=
  a.defers = [] ∧ a.tmps.size = 78 ∧ a.tmps[5]? = some (.pointer (some ⟨g5, 0, none⟩)) ∧ a.tmps[8]? = some vr ∧ a.tmps[9]? = some (.int .i64 (wA wd : Int)) ∧ a.tmps[10]? = some (.int .i64 (wM wd : Int))

def RpbInv (g5 : Nat) (vr : Value) (wd : Bool) (P : List (List Int)) (ps : List (Int × Bool)) (w : World) (a : Act) (w' : World) : Prop :=
  RpbH g5 vr wd a ∧ ∃ i : Nat, i ≤ P.length ∧ a.tmps[12]? = some (.int .i64 (i : Int)) ∧ a.tmps[11]? = some (.int .i64 (6 + zsum (wA wd) (P.take i) (ps.take i))) ∧ zall (wM wd) (P.take i) (ps.take i) = true ∧ Kept Nix w w'

def RpbEnd (t : Nat) (v : Int) (b : Bool) (wd : Bool) (P : List (List Int)) (ps : List (Int × Bool)) (w : World) (a' : Act) (w' : World) : Prop :=
  a'.defers = [] ∧ a'.tmps.size = 78 ∧ a'.tmps[t]? = some (.int .i64 v) ∧ zall (wM wd) P ps = b ∧ Kept Nix w w'

set_option maxRecDepth 10000 in
set_option maxHeartbeats 4000000 in
theorem rpb_loop0 (g5 : Nat) (ro po : Option Addr) (rc pc : Nat) (wd : Bool) (o : Int) (P : List (List Int)) (ps : List (Int × Bool)) (a : Act) (w : World)
    (hh : RpbH g5 (.slice ro P.length rc) wd a) (h11 : a.tmps[11]? = some (.int .i64 6)) (h12 : a.tmps[12]? = some (.int .i64 0))
    (hx : w.heap[g5]? = some (.cells #[.bool wd, .int .i64 o, .slice po ps.length pc] 26 (0, 0))) (hch : Chs w (.slice ro P.length rc) P) (hp : Pts w (.slice po ps.length pc) ps) (hlen : P.length = ps.length)
    (hle : P.length ≤ 32768 ∧ tl P ≤ 1048576) (hql : ∀ R, R ∈ P → R.length ≤ 1048576) :
    Code.wp Try.prog rpbL (fun e a' w' => match e with
      | .exit 0 => RpbEnd 11 (6 + zsum (wA wd) P ps) true wd P ps w a' w'
      | .ret => RpbEnd 6 (-1) false wd P ps w a' w'
      | _ => False) a w := by
  have HB := Lib.hid (fun w' (h : Kept Nix w w') => cells_three (h.heap hx id))
  have CH := Lib.hid hch
  have HP := Lib.hid hp
  have HLE := Lib.hid hle
  have EA := Lib.hid (fun (i : Nat) (hi : i < P.length) v' w' (h : Sl w' v' (ivs (P.getD i []))) => rceach_any v' (P.getD i []) (ps.getD i (0, false)).1 (ps.getD i (0, false)).2 w' h (hql _ (get_mem hi)))
  obtain ⟨m, hm⟩ : ∃ m, P.length = m := ⟨_, rfl⟩
  have HM := Lib.hid hm
  rw [hm] at hlen hh CH EA
  rw [← hlen] at HP HB
  have HN := Lib.hid hlen
  clear hx hch hp hle hql hm hlen
  refine wp_loop (RpbInv g5 (.slice ro m rc) wd P ps w) (fun a _ => m - (intOf (a.tmps.getD 12 undef)).toNat) ?_ ?_
  · exact ⟨hh, 0, Nat.zero_le _, h12, h11, rfl, Kept.refl _ _⟩
  · clear hh h11 h12
    rintro ⟨tm, df⟩ w5 ⟨⟨rfl, hs, e5, e8, e9, e10⟩, i, hi, e12, e11, hza, hk⟩
    simp only at hs e5 e8 e9 e10 e12 e11
    rw [HM.out] at hi
    obtain ⟨f, hf, hg⟩ := fr_open hs
    have g5' := hg _ _ e5
    have g8 := hg _ _ e8
    have g9 := hg _ _ e9
    have g10 := hg _ _ e10
    have g12 := hg _ _ e12
    have g11 := hg _ _ e11
    simp only [List.range, List.range.loop, List.map] at hf
    rw [g5', g8, g9, g10, g12, g11] at hf
    clear g5' g8 g9 g10 g12 g11 hg hs e5 e8 e9 e10 e12 e11
    subst hf
    have HK := Lib.hid hk
    have HZ := Lib.hid hza
    clear hk hza
    by_cases hlt : i < m
    · have hdd : decide (i < m) = true := decide_eq_true hlt
      have hi1 : (i : Int) < (m : Int) := by omega
      obtain ⟨b1, o1, rfl, hc1⟩ := HP.out.at i (by rw [← HN.out]; exact hlt)
      obtain ⟨b2, o2, rfl, ro2, rc2, hc2⟩ := CH.out.row i (by rw [HM.out]; exact hlt)
      obtain ⟨y1, y2⟩ := hc1 w5 HK.out
      obtain ⟨x0, x1, x2⟩ := HB.out w5 HK.out
      have R2 := Lib.hid (fun w' (h : Kept Nix w5 w') => hc2 w' (nix_trans HK.out h))
      have EI := Lib.hid (EA.out i hlt)
      have ZS := Lib.hid (zsum_step (wA wd) P ps i (by rw [HM.out]; exact hlt) (by rw [← HN.out]; exact hlt))
      have ZA := Lib.hid (zall_step (wM wd) P ps i (by rw [HM.out]; exact hlt) (by rw [← HN.out]; exact hlt))
      have ZN := Lib.hid (zall_not (wM wd) P ps i (by rw [HM.out]; exact hlt) (by rw [← HN.out]; exact hlt))
      have ZF := Lib.hid (fun h => zsum_fits (m := wM wd) (a := wA wd) (P := P) (ps := ps) (i + 1) (wA_le wd) HLE.out.1 HLE.out.2 h)
      have ZF0 := Lib.hid (zsum_fits (m := wM wd) (a := wA wd) (P := P) (ps := ps) i (wA_le wd) HLE.out.1 HLE.out.2 HZ.out)
      have HI := Lib.hid hlt
      have HW := Lib.hid (show wrap64 ((i : Int) + 1) = ((i + 1 : Nat) : Int) by have := HLE.out.1; have := HM.out; rw [w64_in _ (by omega)]; omega)
      clear hc1 hc2 hlt hi EA
      generalize P.getD i [] = R at *
      generalize ps.getD i (0, false) = pk at *
      obtain ⟨pk, pr⟩ := pk
      simp only at y1 y2 EI ZS
      generalize R.length = ql at *
      go_upto_region 15 with fail
      have PC := Lib.hid (part_cells w5 pk pr 39)
      have K6 := Lib.hid ((Kept.refl Nix w5).alloc (.cells #[.int .i64 pk, .bool pr] 39))
      generalize w5.alloc (.cells #[.int .i64 pk, .bool pr] 39) = w6 at *
      generalize w5.heap.size = g6 at *
      obtain ⟨p1, p2, p3⟩ := PC.out w6.drew (Kept.refl _ _).drew
      obtain ⟨r1, r2⟩ := R2.out w6.drew K6.out.drew
      clear y1 y2 hdd x0 x1 x2
      go_region_law
        (first | (go_simp; go_at_call 37; refine (EI.out _ _ r2).mono ?_; rintro e w7 ⟨rfl, k7⟩; have K7 := Lib.hid k7; clear k7))
      all_goals
        have K67 := Lib.hid (show Kept Nix w6 w7 from nix_trans ((Kept.refl Nix w6).drew) K7.out)
        obtain ⟨q1, q2, q3⟩ := PC.out w7 K67.out
        clear p1 p2 p3 r1 r2 EI R2 q3
        have BC := bits_cases (wM wd) R pk pr
        obtain ⟨x, hx⟩ : ∃ x, ceach R pk pr = x := ⟨_, rfl⟩
        rw [hx] at BC ZS ⊢
        have KG := Lib.hid (nix_trans HK.out (nix_trans K6.out K67.out))
        clear hx
        rcases BC with ⟨bz, b1, b2⟩ | ⟨bz, bb⟩
        · have HZ2 := Lib.hid (show zall (wM wd) (P.take (i + 1)) (ps.take (i + 1)) = true by rw [ZA.out, HZ.out, bz]; rfl)
          have hz2 := ZF.out HZ2.out
          have hz1 := ZF0.out
          rw [ZS.out] at hz2
          have HZS := Lib.hid (show 6 + zsum (wA wd) (P.take (i + 1)) (ps.take (i + 1)) = 6 + zsum (wA wd) (P.take i) (ps.take i) + (wA wd : Int) + x by rw [ZS.out]; omega)
          have hwa := wA_le wd
          have e3 : wrap64 (6 + zsum (wA wd) (P.take i) (ps.take i) + (wA wd : Int)) = 6 + zsum (wA wd) (P.take i) (ps.take i) + (wA wd : Int) := w64_in _ (by omega)
          have e4 : wrap64 (6 + zsum (wA wd) (P.take i) (ps.take i) + (wA wd : Int) + x) = 6 + zsum (wA wd) (P.take i) (ps.take i) + (wA wd : Int) + x := w64_in _ (by omega)
          have E3 := Lib.hid (And.intro e3 e4)
          generalize zsum (wA wd) (P.take i) (ps.take i) = z at *
          clear hz1 hz2 bz e3 e4 ZF ZF0 ZN ZA ZS hwa
          rcases b2 with rfl | ⟨rfl, b3, b4⟩
          all_goals
            go_wp2
            rw [HW.out, E3.out.1, E3.out.2]
            exact ⟨⟨⟨rfl, rfl, rfl, rfl, rfl, rfl⟩, i + 1, by rw [HM.out]; exact HI.out, rfl, by rw [HZS.out]; rfl, HZ2.out, KG.out⟩, nearer HI.out rfl⟩
        · have HZN := Lib.hid (ZN.out bz)
          clear bz ZF ZF0 ZN ZA ZS
          generalize zsum (wA wd) (P.take i) (ps.take i) = z at *
          rcases bb with b1 | ⟨b1, rfl, b2⟩ | ⟨b1, rfl, b2, b3⟩
          all_goals
            go_wp2
            exact ⟨rfl, rfl, rfl, HZN.out, KG.out⟩
    · have hie : i = m := by omega
      subst hie
      have hdd : decide (i < i) = false := decide_eq_false hlt
      clear hlt hi
      have HT := Lib.hid (show P.take i = P ∧ ps.take i = ps from ⟨by rw [← HM.out, List.take_length], by rw [HN.out, List.take_length]⟩)
      have HZ2 := HZ.out
      rw [HT.out.1, HT.out.2] at HZ2
      rw [HT.out.1, HT.out.2]
      have HZ3 := Lib.hid HZ2
      clear HZ2
      go_wp2
      exact ⟨rfl, rfl, rfl, HZ3.out, HK.out⟩

theorem rpb_loop (g5 : Nat) (ro po : Option Addr) (rc pc : Nat) (wd : Bool) (o : Int) (P : List (List Int)) (ps : List (Int × Bool)) (a : Act) (w : World) (Q : Exit → Act → World → Prop)
    (hh : RpbH g5 (.slice ro P.length rc) wd a) (h11 : a.tmps[11]? = some (.int .i64 6)) (h12 : a.tmps[12]? = some (.int .i64 0))
    (hx : w.heap[g5]? = some (.cells #[.bool wd, .int .i64 o, .slice po ps.length pc] 26 (0, 0))) (hch : Chs w (.slice ro P.length rc) P) (hp : Pts w (.slice po ps.length pc) ps) (hlen : P.length = ps.length)
    (hle : P.length ≤ 32768 ∧ tl P ≤ 1048576) (hql : ∀ R, R ∈ P → R.length ≤ 1048576)
    (hQ : ∀ a' w', RpbEnd 11 (6 + zsum (wA wd) P ps) true wd P ps w a' w' → Q (.exit 0) a' w')
    (hR : ∀ a' w', RpbEnd 6 (-1) false wd P ps w a' w' → Q .ret a' w') : Code.wp Try.prog rpbL Q a w := by
  refine wp_mono (rpb_loop0 g5 ro po rc pc wd o P ps a w hh h11 h12 hx hch hp hlen hle hql) ?_
  intro e a' w' h
  split at h
  · exact hQ _ _ h
  · exact hR _ _ h
  · exact absurd h id

set_option maxRecDepth 10000 in
set_option maxHeartbeats 4000000 in
theorem rpbits_any (v : Value) (L : List Int) (k o : Nat) (wd : Bool) (vp : Value) (ps : List (Int × Bool)) (w : World) (hv : Sl w v (ivs L)) (hp : Pts w vp ps) (hl : L.length ≤ 1048576) (hk : k ≤ 1048576) (ho : o ≤ 15) :
    Calls Try.prog 22 #[v, .int .i64 (k : Int), .agg #[.bool wd, .int .i64 (o : Int), vp]] w fun e w' => e = .returned (.int .i64 (pbits (pcz L (cts L.length k o)) ps (wM wd) (wA wd))) ∧ Kept Nix w w' := by
  obtain ⟨ao, ca, rfl, -⟩ := hv.ints
  obtain ⟨po, pc, rfl, hp⟩ := hp.len
  have hb := heap_alloc_new w (.cells #[.bool wd, .int .i64 (o : Int), .slice po ps.length pc] 26)
  have k1 : Kept Nix w (w.alloc (.cells #[.bool wd, .int .i64 (o : Int), .slice po ps.length pc] 26)) := (Kept.refl _ w).alloc _
  have HB := Lib.hid hb
  have CU := Lib.hid (rcuts_any L.length k o (w.alloc (.cells #[.bool wd, .int .i64 (o : Int), .slice po ps.length pc] 26)) hl hk ho)
  unfold CutsPost at CU
  rw [ctI_nat] at CU
  have CT := Lib.hid (fun vc w' (h : Kept Nix w w') (hc : Sl w' vc (ivs (ni (cts L.length k o)))) => rsplit_any L (cts L.length k o) _ vc w' (hv.nix h) hc (cts_sum_le _ _ _) hl (cts_length_le _ _ _))
  have K1 := Lib.hid k1
  have HP := Lib.hid hp
  have hpl : (pcz L (cts L.length k o)).length = (cts L.length k o).length := pcz_length _ _
  have HLE := Lib.hid (And.intro (show (pcz L (cts L.length k o)).length ≤ 32768 by rw [pcz_length]; exact cts_length_le _ _ _) (show tl (pcz L (cts L.length k o)) ≤ 1048576 from Nat.le_trans (tl_pcz _ _) hl))
  have HQL := Lib.hid (show ∀ Q, Q ∈ pcz L (cts L.length k o) → Q.length ≤ 1048576 from fun Q hQ => by
    obtain ⟨i, hi, rfl⟩ := List.getElem_of_mem hQ
    have h1 := tl_get _ i hi
    rw [show (pcz L (cts L.length k o)).getD i [] = (pcz L (cts L.length k o))[i] by simp [List.getD, hi]] at h1
    exact Nat.le_trans h1 (Nat.le_trans (tl_pcz _ _) hl))
  clear hb k1 hv hp hl hk ho
  generalize pcz L (cts L.length k o) = P at *
  generalize cts L.length k o = C at *
  obtain ⟨R, hR⟩ : ∃ R, pbits P ps (wM wd) (wA wd) = R := ⟨_, rfl⟩
  rw [hR]
  have HR := Lib.hid hR
  clear hR
  obtain ⟨m, hm⟩ : ∃ m, P.length = m := ⟨_, rfl⟩
  have HM := Lib.hid hm
  rw [hm] at hpl
  rw [← hpl] at CU
  have HCL := Lib.hid hpl
  generalize hq : ps.length = q at *
  have HQ := Lib.hid hq
  clear hm hq hpl
  go_enter Try.func22, Try.ntmps22
  go_upto_region 1 with fail
  generalize w.alloc (.cells #[.bool wd, .int .i64 (o : Int), .slice po q pc] 26) = w1 at *
  generalize w.heap.size = g5 at *
  obtain ⟨x0, x1, x2⟩ := cells_three HB.out
  go_upto_region 2 with (first
    | (go_at_call 34; refine CU.out.mono ?_; rintro e w2 ⟨u2, rfl, o2, k2⟩; have K2 := Lib.hid k2; have C2 := Lib.hid (CT.out u2 w2 (nix_trans K1.out k2) (sl_of_owns o2)); obtain ⟨uo, uc, rfl, -⟩ := owns_shape o2; clear o2 k2 CU CT))
  clear x0 x1 x2
  have H2 := Lib.hid (K2.out.heap HB.out id)
  obtain ⟨x0, x1, x2⟩ := cells_three H2.out
  have E0 := HR.out
  unfold pbits at E0
  rw [HM.out] at E0
  have K3 := Lib.hid (nix_trans K1.out K2.out)
  by_cases h0 : m = 0
  · rw [if_pos (.inl h0)] at E0
    subst E0
    subst h0
    have KE := Lib.hid K3.out
    clear HR HLE HQL HB
    go_wp2
    go_ret
    exact ⟨rfl, KE.out⟩
  · have t0 : ((m : Int) == 0) = false := by simp; omega
    by_cases hq : m = q
    · subst hq
      have t1 : ((m : Int) != (m : Int)) = false := by simp
      have E0 := Lib.hid E0
      have h0 := Lib.hid h0
      cases wd
      all_goals
        go_wp2_with (first | (go_at_call 35; refine C2.out.mono ?_; rintro e w3 ⟨u3, rfl, ch3, k3⟩; have K4 := Lib.hid (nix_trans K3.out k3); have CH := Lib.hid ch3; have H3 := Lib.hid (k3.heap H2.out id); obtain ⟨y0, y1, y2⟩ := cells_three H3.out; have TP := Lib.hid (HP.out.nix K4.out); obtain ⟨ro, rc, rfl, -⟩ := ch3.open; clear ch3 k3 C2))
        refine rpb_loop g5 ro po rc pc _ (o : Int) P ps _ w3 _ ⟨rfl, rfl, rfl, rfl, rfl, rfl⟩ rfl rfl (by rw [HQ.out]; exact H3.out) CH.out (by rw [HQ.out]; exact TP.out) (by rw [HM.out, HQ.out]) HLE.out HQL.out ?_ ?_
        · rintro ⟨tm, df⟩ w4 ⟨rfl, hs, e11, hz, hk⟩
          simp only at hs e11
          obtain ⟨f, hf, hg⟩ := fr_open hs
          have g11 := hg _ _ e11
          simp only [List.range, List.range.loop, List.map] at hf
          rw [g11] at hf
          clear g11 hg hs e11
          subst hf
          have KE := Lib.hid (nix_trans K4.out hk)
          have e0 := E0.out
          rw [if_neg (by rw [HQ.out, hz]; rintro (h | h | h); exact h0.out h; exact h rfl; cases h)] at e0
          have E1 := Lib.hid e0
          clear hk hz e0 y0 y1 y2 x0 x1 x2 t0 t1 HR HLE HQL
          go_wp2
          go_ret
          exact ⟨by rw [← E1.out]; rfl, KE.out⟩
        · rintro ⟨tm, df⟩ w4 ⟨rfl, hs, e6, hz, hk⟩
          simp only at hs e6
          obtain ⟨f, hf, hg⟩ := fr_open hs
          have g6 := hg _ _ e6
          simp only [List.range, List.range.loop, List.map] at hf
          rw [g6] at hf
          clear g6 hg hs e6
          subst hf
          have KE := Lib.hid (nix_trans K4.out hk)
          have e0 := E0.out
          rw [if_pos (.inr (.inr hz))] at e0
          subst e0
          clear hk hz y0 y1 y2 x0 x1 x2 t0 t1 HR HLE HQL
          go_wp2
          go_ret
          exact ⟨rfl, KE.out⟩
    · have t1 : ((m : Int) != (q : Int)) = true := bne_iff_ne.2 (by omega)
      rw [if_pos (.inr (.inl (by rw [HQ.out]; exact hq)))] at E0
      subst E0
      clear hq
      go_wp2
      go_ret
      exact ⟨rfl, K3.out⟩

end Go.Proofs.Ytliggpidkdiinaa

namespace Go.Proofs.Ytliggpidkdiinaa
open Go.RowKit Bx

theorem plN_best {L : List Int} (k : Nat) (hn : nrs L = true) (w : Bool) (o : Nat) (ho : cutOk L.length k o = true) : pbits (plS L k o) (plP L k w o) (wM w) (wA w) = (plN L k w o : Int) := by
  unfold plP plN
  exact pbits_best (pcz_nrs L _ hn) (by have h := plS_length (L := L) ho; unfold plS at h; rw [h]; exact Nat.two_pow_pos o) _ _ (wM_le w)

theorem plN_zero {L : List Int} (k : Nat) (h0 : 0 < L.length) : plN L k false 0 = cbN L 14 + 10 := by
  have e : cts L.length k 0 = [L.length] := by
    unfold cts
    rw [if_pos (cutOk_zero k h0)]
    simp
  unfold plN plS
  rw [e]
  simp only [pcz, psm, List.take_length, wM, wA]
  simp
  omega

theorem plP_zero {L : List Int} (k : Nat) (h0 : 0 < L.length) (w : Bool) : (plP L k w 0).length = 1 := by
  unfold plP
  rw [bps_length, plS_length (cutOk_zero k h0)]

/-- The best plan has no more bits than any of these. -/
theorem best_plan {L : List Int} (k most : Nat) (wide : Bool) (wd : Bool) (hw : wd = true → wide = true) (o : Nat) (ho : o ≤ fin L.length k most) : plN L k (bsW L k most wide) (bsO L k most wide) ≤ plN L k wd o := by
  obtain ⟨a1, a2, a3⟩ := upA_fst (plN L k false) (fin L.length k most)
  obtain ⟨b1, b2, b3⟩ := upA_fst (plN L k true) (fin L.length k most)
  have h1 := a2 o ho
  have h2 := b2 o ho
  unfold bsO
  cases hb : bsW L k most wide with
  | true =>
    unfold bsW at hb
    simp only [Bool.and_eq_true, decide_eq_true_eq] at hb
    have := hb.2
    cases wd with
    | true => exact h2
    | false => omega
  | false =>
    cases wd with
    | false => exact h1
    | true =>
      have h3 := hw rfl
      unfold bsW at hb
      rw [h3, Bool.true_and, decide_eq_false_iff_not] at hb
      omega

theorem bsO_le (L : List Int) (k most : Nat) (wide : Bool) : bsO L k most wide ≤ fin L.length k most := by
  unfold bsO
  exact upA_le _ _

theorem bsW_not (L : List Int) (k most : Nat) : bsW L k most false = false := rfl

/-- What is told where nothing is wrong. -/
theorem pb_told {L : List Int} {k m : Nat} (hk : k ≤ 32) (hm : m ≤ 8) (h0 : 0 < L.length) (hn : nrs L = true) (wide : Bool) :
    pbE L (k : Int) (m : Int) = 0 ∧ pbW L (k : Int) (m : Int) wide = bsW L k m wide ∧ pbO L (k : Int) (m : Int) wide = (bsO L k m wide : Int) ∧ pbP L (k : Int) (m : Int) wide = plP L k (bsW L k m wide) (bsO L k m wide) ∧ pbN L (k : Int) (m : Int) wide = (plN L k (bsW L k m wide) (bsO L k m wide) : Int) := by
  have h := pb_good hk hm h0 hn
  unfold pbW pbO pbP pbN
  rw [if_pos h, if_pos h, if_pos h, if_pos h]
  simp [h]

theorem bs_zero (L : List Int) (k : Nat) : bsO L k 0 false = 0 := by
  have := bsO_le L k 0 false
  have := fin_le L.length k 0
  omega

theorem whole_nums {L : List Int} {k m : Nat} (hk : k ≤ 32) (hm : m ≤ 8) (h0 : 0 < L.length) (hl : L.length ≤ 80) (hn : nrs L = true) :
    ∃ B N2 N3 : Nat, bestN L 14 = (B : Int) ∧ wrap64 ((B : Int) + 10) = ((B + 10 : Nat) : Int) ∧ pbN L (k : Int) 0 false = ((B + 10 : Nat) : Int) ∧ pbN L (k : Int) (m : Int) false = (N2 : Int) ∧ pbN L (k : Int) (m : Int) true = (N3 : Int) ∧ N2 ≤ B + 10 ∧ N3 ≤ N2 ∧ pbE L (k : Int) 0 = 0 ∧ pbE L (k : Int) (m : Int) = 0 ∧ (pbP L (k : Int) 0 false).length = 1 := by
  obtain ⟨a1, -, -, a4, a5⟩ := pb_told (m := 0) hk (by omega) h0 hn false
  obtain ⟨b1, -, -, -, b5⟩ := pb_told hk hm h0 hn false
  obtain ⟨-, -, -, -, c5⟩ := pb_told hk hm h0 hn true
  have hb := cbN_big hn 14
  have hb2 : L.length * 17179869214 ≤ 80 * 17179869214 := Nat.mul_le_mul_right _ hl
  have e0 : plN L k (bsW L k 0 false) (bsO L k 0 false) = cbN L 14 + 10 := by rw [bsW_not, bs_zero, plN_zero k h0]
  refine ⟨cbN L 14, _, _, (best_near hn 14).2.2.1, ?_, ?_, b5, c5, ?_, ?_, a1, b1, ?_⟩
  · rw [w64_in _ (by omega)]; omega
  · rw [show ((0 : Nat) : Int) = 0 from rfl] at a5; rw [a5, e0]
  · rw [← plN_zero k h0]
    exact best_plan k m false false (fun h => h) 0 (Nat.zero_le _)
  · exact best_plan k m true _ (fun _ => rfl) _ (bsO_le L k m false)
  · rw [show ((0 : Nat) : Int) = 0 from rfl] at a4; rw [a4, bsW_not, bs_zero, plP_zero k h0]

theorem law_mods {b c : Int} (hb : (Lit.int .u8 b).wf = true) (hc : (Lit.int .u8 c).wf = true) : ∃ K J : Nat, K ≤ 32 ∧ J ≤ 8 ∧ b.tmod 33 = (K : Int) ∧ wrap64 (K : Int) = (K : Int) ∧ c.tmod 9 = (J : Int) ∧ wrap64 (J : Int) = (J : Int) := by
  obtain ⟨q, rfl, hq⟩ := nat_u8 hb
  obtain ⟨r, rfl, hr⟩ := nat_u8 hc
  refine ⟨q % 33, r % 9, by omega, by omega, ?_, small_i _ (by omega), ?_, small_i _ (by omega)⟩
  · rw [Int.tmod_eq_emod_of_nonneg (by omega)]; omega
  · rw [Int.tmod_eq_emod_of_nonneg (by omega)]; omega

/-- Any plan that can be has as many bits as the best one, or more. -/
theorem least_plan {L : List Int} {k m : Nat} (hk : k ≤ 32) (hm : m ≤ 8) (h0 : 0 < L.length) (hn : nrs L = true) (o : Int) (wd : Bool) (ps : List (Int × Bool)) :
    pbits (pcz L (ctI L.length (k : Int) o)) ps (wM wd) (wA wd) < 0 ∨ (m : Int) < o ∨ pbN L (k : Int) (m : Int) true ≤ pbits (pcz L (ctI L.length (k : Int) o)) ps (wM wd) (wA wd) := by
  obtain ⟨-, -, -, -, c5⟩ := pb_told hk hm h0 hn true
  rw [c5]
  unfold pbits
  split
  · left; omega
  · next h =>
    rw [not_or, not_or] at h
    obtain ⟨h1, h2, h3⟩ := h
    have h2 : (pcz L (ctI L.length (k : Int) o)).length = ps.length := by simpa using h2
    have h3 : zall (wM wd) (pcz L (ctI L.length (k : Int) o)) ps = true := by simpa using h3
    by_cases ho : (m : Int) < o
    · exact .inr (.inl ho)
    · right; right
      have ho0 : 0 ≤ o := by
        rcases Int.lt_or_le o 0 with hh | hh
        · rw [cuts_far (.inr (.inl hh))] at h1; simp [pcz] at h1
        · exact hh
      obtain ⟨p, rfl⟩ : ∃ p : Nat, o = (p : Int) := ⟨o.toNat, by omega⟩
      rw [ctI_nat] at h1 h2 h3 ⊢
      have hc : cutOk L.length k p = true := by
        cases hc : cutOk L.length k p with
        | true => rfl
        | false => rw [cts_none hc] at h1; simp [pcz] at h1
      have hp : p ≤ fin L.length k m := by
        rcases Nat.lt_or_ge (fin L.length k m) p with hh | hh
        · rw [fin_no hh (by omega)] at hc; cases hc
        · exact hh
      have g1 := best_plan (L := L) k m true wd (fun _ => rfl) p hp
      have g2 := zsum_least (a := wA wd) (wM_le wd) _ _ h2 h3
      have e : plN L k wd p = 6 + psm (wM wd) (wA wd) (pcz L (cts L.length k p)) := rfl
      omega

theorem least_best {L : List Int} {k m : Nat} (hk : k ≤ 32) (hm : m ≤ 8) (h0 : 0 < L.length) (hn : nrs L = true) (wide : Bool) :
    pbits (pcz L (ctI L.length (k : Int) (pbO L (k : Int) (m : Int) wide))) (pbP L (k : Int) (m : Int) wide) (wM (pbW L (k : Int) (m : Int) wide)) (wA (pbW L (k : Int) (m : Int) wide)) = pbN L (k : Int) (m : Int) wide ∧ ¬ (m : Int) < pbO L (k : Int) (m : Int) wide := by
  obtain ⟨-, c2, c3, c4, c5⟩ := pb_told hk hm h0 hn wide
  rw [c2, c3, c4, c5, ctI_nat]
  have h1 := bsO_le L k m wide
  have h2 := fin_le L.length k m
  exact ⟨plN_best k hn _ _ (cutOk_le (fin_ok h0 m) h1), by omega⟩

end Go.Proofs.Ytliggpidkdiinaa
