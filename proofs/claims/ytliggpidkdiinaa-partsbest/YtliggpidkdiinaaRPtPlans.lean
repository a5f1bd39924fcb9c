/- The reference's Plans: loops as pieces. -/
import Derived.Test.YtliggpidkdiinaaRPtRack
import Derived.Test.YtliggpidkdiinaaRPtSplit
import Derived.Test.YtliggpidkdiinaaRPtCuts
import Derived.Test.YtliggpidkdiinaaRCost3
import Derived.Test.YtliggpidkdiinaaLoopAt
namespace Go.Proofs.Ytliggpidkdiinaa
open Go.RowKit Bx

noncomputable def rplL2 : Code := (loopAt 6 (Try.f21.body.getD .skip)).getD .skip
noncomputable def rplL3 : Code := (loopAt 13 (Try.f21.body.getD .skip)).getD .skip

def RplA (vl : Value) (k m : Nat) (wide : Bool) (wn : Nat) (vo : Value) (a : Act) : Prop :=
  a.defers = [] ∧ a.tmps.size = 80 ∧ a.tmps[0]? = some vl ∧ a.tmps[1]? = some (.int .i64 (k : Int)) ∧ a.tmps[2]? = some (.int .i64 (m : Int)) ∧ a.tmps[3]? = some (.bool wide) ∧ a.tmps[10]? = some (.int .i64 (wn : Int)) ∧ a.tmps[9]? = some vo

def Rpl3H (vl : Value) (k m : Nat) (wide : Bool) (wn : Nat) (vo : Value) (o g13 : Nat) (a : Act) : Prop :=
  RplA vl k m wide wn vo a ∧ a.tmps[11]? = some (.int .i64 (o : Int)) ∧ a.tmps[13]? = some (.pointer (some ⟨g13, 0, none⟩))

def Rpl3E (vl : Value) (k m : Nat) (wide : Bool) (wn : Nat) (vo : Value) (o g13 : Nat) (wd : Bool) (P : List (List Int)) (w : World) (a : Act) (w' : World) : Prop :=
  Rpl3H vl k m wide wn vo o g13 a ∧ ∃ u, w'.heap[g13]? = some (.cells #[.bool wd, .int .i64 (o : Int), u] 26 (0, 0)) ∧ w'.ownsRow w.heap.size 39 2 u P.length (pcs (bps P (wM wd))) ∧ Kept (One g13) w w'

def Rpl3Inv (vl : Value) (k m : Nat) (wide : Bool) (wn : Nat) (vo : Value) (o g13 : Nat) (vr : Value) (wd : Bool) (P : List (List Int)) (w : World) (a : Act) (w' : World) : Prop :=
  Rpl3H vl k m wide wn vo o g13 a ∧ a.tmps[14]? = some vr ∧ ∃ i : Nat, i ≤ P.length ∧ a.tmps[15]? = some (.int .i64 (i : Int)) ∧
    ∃ u, Hid (w'.heap[g13]? = some (.cells #[.bool wd, .int .i64 (o : Int), u] 26 (0, 0))) ∧ w'.ownsRow w.heap.size 39 2 u i (pcs (bps (P.take i) (wM wd))) ∧ Kept (One g13) w w'

theorem wM_num {wn : Nat} {wd : Bool} (h : wn ≤ 1) (hw : wd = decide (wn = 1)) : wrap64 (16 * (wn : Int)) = 16 * (wn : Int) ∧ wrap64 (14 + 16 * (wn : Int)) = (wM wd : Int) ∧ kk (wM wd : Int) = wM wd := by
  have : wn = 0 ∨ wn = 1 := by omega
  rcases this with rfl | rfl
  · subst hw; exact ⟨w64_in _ (by omega), (w64_in _ (by omega)).trans rfl, by decide⟩
  · subst hw; exact ⟨w64_in _ (by omega), (w64_in _ (by omega)).trans rfl, by decide⟩

set_option maxRecDepth 10000 in
set_option maxHeartbeats 4000000 in
theorem rpl_l3 (vl : Value) (k m : Nat) (wide : Bool) (wn : Nat) (vo : Value) (o g13 : Nat) (ro : Option Addr) (rc : Nat) (wd : Bool) (L : List Int) (C : List Nat) (P : List (List Int)) (hP : pcz L C = P) (a : Act) (wb ws w : World) (Q : Exit → Act → World → Prop)
    (hh : Rpl3H vl k m wide wn vo o g13 a) (h14 : a.tmps[14]? = some (.slice ro P.length rc)) (h15 : a.tmps[15]? = some (.int .i64 0))
    (hx : w.heap[g13]? = some (.cells #[.bool wd, .int .i64 (o : Int), .slice none 0 0] 26 (0, 0))) (hch : SplitOf L C wb ws (.slice ro P.length rc) w) (hkb : Kept Nix wb w) (hgb : wb.heap.size ≤ g13) (hgs : g13 < ws.heap.size)
    (hwn : wn ≤ 1) (hwd : wd = decide (wn = 1)) (hle : P.length ≤ 32768) (hF : Fine P)
    (hQ : ∀ a' w', Rpl3E vl k m wide wn vo o g13 wd P w a' w' → Q (.exit 4) a' w') : Code.wp Try.prog rplL3 Q a w := by
  have CH := Lib.hid (show ∀ w', Kept (One g13) w w' → Chs w' (.slice ro P.length rc) P from fun w' hk => by
    rw [← hP] at hch ⊢
    exact (hch.kept hk (fun kk h1 h2 => by have h2 : kk = g13 := h2; omega)).chs (hkb.trans hk (fun _ h => h) (fun j hj h => by have h : j = g13 := h; omega)))
  have HX := Lib.hid hx
  have HG := Lib.hid (show g13 < w.heap.size from (Array.getElem?_eq_some_iff.1 hx).1)
  have HLE := Lib.hid hle
  have HQ := Lib.hid hQ
  have HN := Lib.hid (wM_num hwn hwd)
  have EB := Lib.hid (fun (i : Nat) (hi : i < P.length) v' w' (h : Sl w' v' (ivs (P.getD i []))) => rcbest_any v' (P.getD i []) (wM wd : Int) w' h (hF.get hi).2)
  rw [HN.out.2.2] at EB
  obtain ⟨n, hn⟩ : ∃ n, P.length = n := ⟨_, rfl⟩
  have HP := Lib.hid hn
  rw [hn] at h14 CH EB HLE
  clear hch hx hle hQ hwn hwd hF hn hkb hgb hgs hP
  refine wp_loop (Rpl3Inv vl k m wide wn vo o g13 (.slice ro n rc) wd P w) (fun a _ => n - (intOf (a.tmps.getD 15 undef)).toNat) ?_ ?_
  · exact ⟨hh, h14, 0, Nat.zero_le _, h15, _, HX, World.ownsRow_nil _ _ _ _, Kept.refl _ _⟩
  · clear hh h14 h15 HX
    rintro ⟨tm, df⟩ w3 ⟨⟨⟨rfl, hs, e0, e1, e2, e3, e10, e9⟩, e11, e13⟩, e14, i, hi, e15, u, h10, ho, hk⟩
    simp only at hs e0 e1 e2 e3 e10 e9 e11 e13 e14 e15
    rw [HP.out] at hi
    obtain ⟨f, hf, hg⟩ := fr_open hs
    have g0 := hg _ _ e0
    have g1 := hg _ _ e1
    have g2 := hg _ _ e2
    have g3 := hg _ _ e3
    have g10 := hg _ _ e10
    have g9 := hg _ _ e9
    have g11 := hg _ _ e11
    have g13' := hg _ _ e13
    have g14 := hg _ _ e14
    have g15 := hg _ _ e15
    simp only [List.range, List.range.loop, List.map] at hf
    rw [g0, g1, g2, g3, g10, g9, g11, g13', g14, g15] at hf
    clear g0 g1 g2 g3 g10 g9 g11 g13' g14 g15 hg hs e0 e1 e2 e3 e10 e9 e11 e13 e14 e15
    subst hf
    have H10 := Lib.hid h10.out
    have HO := Lib.hid ho
    have HK := Lib.hid hk
    clear h10 ho hk
    by_cases hlt : i < n
    · have hdd : decide (i < n) = true := decide_eq_true hlt
      have hi1 : (i : Int) < (n : Int) := by omega
      have hch3 := CH.out w3 HK.out
      obtain ⟨b2, o2, rfl, ro2, rc2, hc2⟩ := hch3.row i (by rw [HP.out]; exact hlt)
      obtain ⟨r1, r2⟩ := hc2 w3 (Kept.refl _ _)
      have EI := Lib.hid (EB.out i hlt _ _ r2)
      unfold bestV at EI
      have HBS := Lib.hid (bps_step P (wM wd) i (by rw [HP.out]; exact hlt))
      have e1 := HN.out.1
      have e2 := HN.out.2.1
      have HI := Lib.hid hlt
      have HW := Lib.hid (show wrap64 ((i : Int) + 1) = ((i + 1 : Nat) : Int) by have := HLE.out; rw [w64_in _ (by omega)]; omega)
      have E5 := Lib.hid (show i + 1 ≤ maxLen ∧ (i + 1) * 16 ≤ 140737488355328 by have := HLE.out; simp only [maxLen]; omega)
      clear hc2 r2 hlt hi hch3 EB
      generalize P.getD i [] = R at *
      generalize bestK R (wM wd) = bk' at *
      generalize bestR R (wM wd) = br' at *
      generalize bestN R (wM wd) = bn' at *
      generalize bestE R = be' at *
      generalize R.length = rl at *
      go_upto_region 16 with (go_at_call 36; refine EI.out.mono ?_; rintro e w4 ⟨rfl, k4⟩; have K4 := Lib.hid k4; clear k4 EI)
      have PC := Lib.hid (part_cells w4 bk' br' 39)
      have K5 := Lib.hid (nix_trans K4.out ((Kept.refl Nix w4).alloc (.cells #[.int .i64 bk', .bool br'] 39)))
      generalize w4.alloc (.cells #[.int .i64 bk', .bool br'] 39) = w5 at *
      generalize w4.heap.size = g16 at *
      obtain ⟨p1, p2, p3⟩ := PC.out w5 (Kept.refl _ _)
      have hh5 := K5.out.heap H10.out id
      have y2 : w5.cell? ⟨g13, 2, none⟩ = some u := (cell_of hh5).trans rfl
      have O5 := Lib.hid ((K5.out.owns HO.out (fun _ _ h => h)).alloc (.cells #[.int .i64 bk', .bool br'] 39))
      have K6 := Lib.hid (K5.out.alloc (.cells #[.int .i64 bk', .bool br'] 39))
      have HBSZ := Lib.hid (show w.heap.size ≤ (w5.alloc (.cells #[.int .i64 bk', .bool br'] 39)).heap.size from Nat.le_trans HK.out.size K6.out.size)
      have KW6 := Lib.hid (HK.out.trans K6.out (fun _ h => h) (fun _ _ h => absurd h id))
      have H10B := Lib.hid (K6.out.heap H10.out id)
      have HLT6 := Lib.hid (Array.getElem?_eq_some_iff.1 H10B.out).1
      have HUN := Lib.hid (show u.ownBlock ≠ some g13 from fun h => by have := (own_lt HO.out h).1; have := HG.out; omega)
      have HUL := Lib.hid (fun kk (h : u.ownBlock = some kk) => (own_lt HO.out h).1)
      clear p3 hh5 hdd PC r1 hi1 e1 e2
      go_wp2_with (
        refine wpList_app _ rfl _ _ 24 rfl w.heap.size 39 (.agg #[.int .i64 0, .bool false]) 2 16 Try.underlying24 info_part rfl (by decide) _ _ _ rfl O5.out _ 1 1 [.int .i64 bk', .bool br'] rfl (src_part w5 _ _ _ rfl rfl) E5.out.1 E5.out.2 HBSZ.out ?_
        intro v6 w6 o6 g6x n6
        have k6 : Kept (One g13) w w6 := KW6.out.grown g6x (fun kk hkk => .inr (HUL.out kk hkk))
        have h6 := (g6x.block g13 HLT6.out (fun e => HUN.out e.symm)).trans H10B.out
        have z2 := frozen_of (i := 2) h6
        have c2' := (cell_of (i := 2) h6).trans rfl
        obtain ⟨vo, vc, rfl, -⟩ := owns_shape o6
        have KK6 := Lib.hid k6; have O6 := Lib.hid o6; have HH6 := Lib.hid h6; clear k6 o6 g6x n6 h6)
      rw [HW.out]
      refine ⟨⟨⟨⟨rfl, rfl, rfl, rfl, rfl, rfl, rfl, rfl⟩, rfl, rfl⟩, rfl, i + 1, by rw [HP.out]; exact HI.out, rfl, .slice vo (i + 1) vc, Lib.hid (heap_set HH6.out), ?_, KK6.out.setCell (p := ⟨g13, 2, none⟩) (.inl rfl) _⟩, nearer HI.out rfl⟩
      rw [HBS.out, pcs_append]
      refine ((Kept.refl (One g13) w6).setCell (p := ⟨g13, 2, none⟩) (.inl rfl) _).owns O6.out (fun kk hkk he => ?_)
      have := (own_lt O6.out hkk).1
      have := HG.out
      have h : kk = g13 := he
      omega
    · have hie : i = n := by omega
      subst hie
      have hdd : decide (i < i) = false := decide_eq_false hlt
      have HT := Lib.hid (show P.take i = P by rw [← HP.out, List.take_length])
      rw [HT.out] at HO
      clear hlt hi
      go_wp2
      exact HQ.out _ _ ⟨⟨⟨rfl, rfl, rfl, rfl, rfl, rfl, rfl, rfl⟩, rfl, rfl⟩, u, H10.out, by rw [HP.out]; exact HO.out, HK.out⟩

end Go.Proofs.Ytliggpidkdiinaa
