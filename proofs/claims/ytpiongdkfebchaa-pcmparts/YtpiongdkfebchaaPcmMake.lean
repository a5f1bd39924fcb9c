/- Package pcm: silent, sample. -/
import Derived.Test.YtpiongdkfebchaaGrid
import Derived.Test.YtpiongdkfebchaaPcmBytes
import Derived.Deep.RegionLaw
import Derived.Deep.OwnRows
namespace Go.Proofs.Ytpiongdkfebchaa
open Go.RowKit Bx

theorem size_sound : (Try.prog.info? 24).map (·.size) = some 3 := by kernel_rfl

theorem one_sound (r d : Int) (ao : Option Addr) (n c : Nat) : (#[.int .i64 r, .int .i64 d, .slice ao n c] : Array Value).all (·.oneCell') = true := by simp [Value.oneCell']

/-- A row more. -/
theorem Grid.push {base : Nat} {w w2 w3 : World} {v v' : Value} {M : Nat} {rs : List Nat} {L : List (List Int)} (h : Grid base w v M rs L) (hb : base ≤ w.heap.size) (k2 : Kept Nix w w2) {g : Nat} (hg0 : w.heap.size ≤ g) {zs : List Int} (hg : w2.heap[g]? = some (.cells (ivs zs).toArray 3 (0, 0))) (hz : zs.length = M)
    (ho : w3.ownsRow base 45 1 v' (rs.length + 1) (rs.map (irow M) ++ [irow M g])) (hgr : w2.grownBy w3 v.ownBlock) : Grid base w3 v' M (rs ++ [g]) (L ++ [zs]) := by
  have h2 := h.kept k2
  obtain ⟨h1, hl, hM, h4, h5⟩ := h
  have hlt : ∀ c, c < rs.length → rs.getD c 0 < w.heap.size := fun c hc => lt_of_heap (h4 c hc).2.1
  have keep : ∀ (k : Nat) (cur : Array Value) (fr : Nat × Nat), w2.heap[k]? = some (.cells cur 3 fr) → w3.heap[k]? = some (.cells cur 3 fr) := by
    intro k cur fr hk
    refine (hgr.block k (lt_of_heap hk) (fun e => ?_)).trans hk
    obtain ⟨cur', hg'⟩ := h2.ownBlock_heap e.symm
    rw [hk] at hg'
    simp at hg'
  refine ⟨by simpa using ho, by simp [hl], hM, fun c hc => ?_, fun a b ha hb' hab => ?_⟩
  · by_cases hcl : c < rs.length
    · obtain ⟨a, b, e⟩ := h4 c hcl
      have e1 : (rs ++ [g]).getD c 0 = rs.getD c 0 := by simp [List.getD, List.getElem?_append_left hcl]
      have e2 : (L ++ [zs]).getD c [] = L.getD c [] := by simp [List.getD, List.getElem?_append_left (show c < L.length by omega)]
      rw [e1, e2]
      exact ⟨a, keep _ _ _ (k2.heap b id), e⟩
    · have hce : c = rs.length := by simp at hc; omega
      subst hce
      have e1 : (rs ++ [g]).getD rs.length 0 = g := by simp [List.getD]
      have e2 : (L ++ [zs]).getD rs.length [] = zs := by rw [hl]; simp [List.getD]
      rw [e1, e2]
      exact ⟨by omega, keep _ _ _ hg, hz⟩
  · have get : ∀ c, c < (rs ++ [g]).length → (c < rs.length ∧ (rs ++ [g]).getD c 0 = rs.getD c 0) ∨ (c = rs.length ∧ (rs ++ [g]).getD c 0 = g) := by
      intro c hc
      by_cases hcl : c < rs.length
      · exact .inl ⟨hcl, by simp [List.getD, List.getElem?_append_left hcl]⟩
      · have hce : c = rs.length := by simp at hc; omega
        exact .inr ⟨hce, by subst hce; simp [List.getD]⟩
    rcases get a ha with ⟨a1, a2⟩ | ⟨a1, a2⟩ <;> rcases get b hb' with ⟨b1, b2⟩ | ⟨b1, b2⟩
    · exact h5 a b a1 b1 (by rw [← a2, ← b2]; exact hab)
    · have := hlt a a1
      rw [a2, b2] at hab
      omega
    · have := hlt b b1
      rw [a2, b2] at hab
      omega
    · omega

theorem grid_zero_succ (i M : Nat) : gridF i M (fun _ _ => 0) ++ [List.replicate M 0] = gridF (i + 1) M (fun _ _ => 0) := by
  unfold gridF
  rw [List.range_succ, List.map_append]
  congr 1
  simp [List.map_const']

theorem sil_step {w w1 w2 w6 : World} {r d : Int} {v v6 : Value} {p8 p9 M g : Nat} {rs : List Nat} {L : List (List Int)} {zs : List Int} {Z : Array Value} (hk : Kept Nix w w1) (h8 : w1.heap[p8]? = some (.cells Z 24 (0, 0))) (h9 : w1.heap[p9]? = some (.cells #[.int .i64 r, .int .i64 d, v] 24 (0, 0)))
    (hgd : Grid w.heap.size w1 v M rs L) (k2 : Kept Nix w1 w2) (hg0 : w1.heap.size ≤ g) (hg : w2.heap[g]? = some (.cells (ivs zs).toArray 3 (0, 0))) (hz : zs.length = M)
    (o6 : w6.ownsRow w.heap.size 45 1 v6 (rs.length + 1) (rs.map (irow M) ++ [irow M g])) (g6 : w2.grownBy w6 v.ownBlock) (hne : p8 ≠ p9) (hp9 : w.heap.size ≤ p9) :
    Kept Nix w (w6.setCell ⟨p9, 2, none⟩ v6) ∧ (w6.setCell ⟨p9, 2, none⟩ v6).heap[p8]? = some (.cells Z 24 (0, 0)) ∧ (w6.setCell ⟨p9, 2, none⟩ v6).heap[p9]? = some (.cells #[.int .i64 r, .int .i64 d, v6] 24 (0, 0)) ∧ Grid w.heap.size (w6.setCell ⟨p9, 2, none⟩ v6) v6 M (rs ++ [g]) (L ++ [zs]) := by
  have hgd2 := hgd.kept k2
  have keep : ∀ (k : Nat) (cur : Array Value), w1.heap[k]? = some (.cells cur 24 (0, 0)) → w6.heap[k]? = some (.cells cur 24 (0, 0)) := by
    intro k cur hk'
    have hk2 := k2.heap hk' id
    refine (g6.block k (lt_of_heap hk2) (fun e => ?_)).trans hk2
    obtain ⟨cur', hg'⟩ := hgd2.ownBlock_heap e.symm
    rw [hk2] at hg'
    simp at hg'
  have q8 := keep p8 _ h8
  have q9 := keep p9 _ h9
  have hpush := hgd.push hk.size k2 hg0 hg hz o6 g6
  have k6 : Kept Nix w w6 := (nix_trans hk k2).grown g6 (fun k hk' => .inr (hgd.1.lt k hk').1)
  refine ⟨k6.setCell (.inr hp9) _, (heap_set_other (p := ⟨p9, 2, none⟩) hne).trans q8, (heap_set q9).trans (by simp), ?_⟩
  refine hpush.other (Kept.setCell (S := One p9) (Kept.refl _ _) (p := ⟨p9, 2, none⟩) (.inl rfl) _) (fun k cur t hk' hh => ?_)
  have hk'' : k = p9 := hk'
  subst hk''
  rw [q9] at hh
  cases hh
  exact ⟨by decide, by decide⟩

def SilInv (p8 p9 : Nat) (r d : Int) (C M : Nat) (w : World) (a : Act) (w' : World) : Prop :=
  a.defers = [] ∧ a.tmps.size = 25 ∧ a.tmps[3]? = some (.int .i64 (M : Int)) ∧ a.tmps[8]? = some (.pointer (some ⟨p8, 0, none⟩)) ∧ a.tmps[9]? = some (.pointer (some ⟨p9, 0, none⟩)) ∧ a.tmps[13]? = some (.int .i64 (C : Int)) ∧
    ∃ i : Nat, i ≤ C ∧ a.tmps[14]? = some (.int .i64 (i : Int)) ∧ Kept Nix w w' ∧ w'.heap[p8]? = some (.cells #[.int .i64 0, .int .i64 0, .slice none 0 0] 24 (0, 0)) ∧
      ∃ v rs, w'.heap[p9]? = some (.cells #[.int .i64 r, .int .i64 d, v] 24 (0, 0)) ∧ rs.length = i ∧ Grid w.heap.size w' v M rs (gridF i M (fun _ _ => 0))

set_option maxHeartbeats 1000000 in
theorem silent_any (r d : Int) (C M : Nat) (hC : C ≤ 8) (hM : M ≤ 1099511627776) (w : World) :
    Calls Try.prog 33 #[.int .i64 r, .int .i64 d, .int .i64 (C : Int), .int .i64 (M : Int)] w fun e w' => ∃ v rs, e = .returned (.agg #[.int .i64 r, .int .i64 d, v]) ∧ Kept Nix w w' ∧ rs.length = C ∧ Grid w.heap.size w' v M rs (gridF C M (fun _ _ => 0)) := by
  have hmk := make_int M hM
  have hg0 : Grid w.heap.size ((w.alloc (.cells #[.int .i64 0, .int .i64 0, .slice none 0 0] 24)).alloc (.cells #[.int .i64 r, .int .i64 d, .slice none 0 0] 24)) (.slice none 0 0) M [] (gridF 0 M (fun _ _ => 0)) :=
    ⟨World.ownsRow_nil _ _ _ _, rfl, by simp [maxLen]; omega, fun c hc => by simp at hc, fun a b ha => by simp at ha⟩
  have hp8 : ((w.alloc (.cells #[.int .i64 0, .int .i64 0, .slice none 0 0] 24)).alloc (.cells #[.int .i64 r, .int .i64 d, .slice none 0 0] 24)).heap[w.heap.size]? = some (.cells #[.int .i64 0, .int .i64 0, .slice none 0 0] 24 (0, 0)) := (Below.heap_alloc _ _ _ (by simp)).trans (heap_alloc_new w _)
  have hp9 : ((w.alloc (.cells #[.int .i64 0, .int .i64 0, .slice none 0 0] 24)).alloc (.cells #[.int .i64 r, .int .i64 d, .slice none 0 0] 24)).heap[w.heap.size + 1]? = some (.cells #[.int .i64 r, .int .i64 d, .slice none 0 0] 24 (0, 0)) := heap_new (by simp)
  have k0 : Kept Nix w ((w.alloc (.cells #[.int .i64 0, .int .i64 0, .slice none 0 0] 24)).alloc (.cells #[.int .i64 r, .int .i64 d, .slice none 0 0] 24)) := ((Kept.refl _ w).alloc _).alloc _
  have HG0 := Lib.hid hg0
  have HP8 := Lib.hid hp8
  have HP9 := Lib.hid hp9
  have K0 := Lib.hid k0
  clear hg0 hp8 hp9 k0
  go_enter Try.func33, Try.ntmps33
  go_wp2
  refine wp_loop (SilInv w.heap.size (w.heap.size + 1) r d C M w) (fun a _ => C - (intOf (a.tmps.getD 14 undef)).toNat) ?_ ?_
  · exact ⟨rfl, rfl, rfl, rfl, rfl, rfl, 0, Nat.zero_le _, rfl, K0.out, HP8.out, _, [], HP9.out, rfl, HG0.out⟩
  · clear HG0 HP8 HP9 K0
    rintro ⟨tm, df⟩ w1 ⟨rfl, hs, e3, e8, e9, e13, i, hi, e14, hk, h8, v, rs, h9, hrs, hgd⟩
    simp only at hs e3 e8 e9 e13 e14
    obtain ⟨f, hf, hg⟩ := fr_open hs
    have g3 := hg _ _ e3
    have g8 := hg _ _ e8
    have g9 := hg _ _ e9
    have g13 := hg _ _ e13
    have g14 := hg _ _ e14
    simp only [List.range, List.range.loop, List.map] at hf
    rw [g3, g8, g9, g13, g14] at hf
    clear g3 g8 g9 g13 g14 hg hs e3 e8 e9 e13 e14
    subst hf
    have HK := Lib.hid hk
    have H8 := Lib.hid h8
    have H9 := Lib.hid h9
    have HGD := Lib.hid hgd
    have HRS := Lib.hid hrs
    by_cases hlt : i < C
    · have hd : decide (i < C) = true := decide_eq_true hlt
      have HI := Lib.hid hlt
      have HCC := Lib.hid hC
      have HMM := Lib.hid hM
      clear hi hlt hk h8 hrs hM
      have hc9 : w1.drew.cell? ⟨w.heap.size + 1, 2, none⟩ = some v := by rw [show w1.drew.cell? ⟨w.heap.size + 1, 2, none⟩ = w1.cell? ⟨w.heap.size + 1, 2, none⟩ from rfl, cell_of h9]; rfl
      have hfz : w1.drew.frozen? ⟨w.heap.size + 1, 2, none⟩ = false := frozen_of (w := w1) h9
      have hown := hgd.1
      have HOWN := Lib.hid hown
      clear h9 hgd hown
      go_wp2
      have hsrc : SrcIs ((w1.drew.alloc (.cells (ivs (List.replicate M 0)).toArray 3)).alloc (.cells #[.slice (some ⟨w1.heap.size, 0, none⟩) M M] 45)) 1 (some ⟨w1.heap.size + 1, 0, none⟩) 1 1 [irow M w1.heap.size] := by
        have h := src_one (w1.drew.alloc (.cells (ivs (List.replicate M 0)).toArray 3)) (irow M w1.heap.size) 45 rfl
        rw [World.size_alloc] at h
        exact h
      have HSRC := Lib.hid hsrc
      have hown2 : ((w1.drew.alloc (.cells (ivs (List.replicate M 0)).toArray 3)).alloc (.cells #[.slice (some ⟨w1.heap.size, 0, none⟩) M M] 45)).ownsRow w.heap.size 45 1 v rs.length (rs.map (irow M)) := ((Kept.refl Nix w1).drew.owns HOWN.out (fun _ _ h => h)).alloc _ |>.alloc _
      have HOWN2 := Lib.hid hown2
      have HB1 := Lib.hid (show rs.length + 1 ≤ maxLen by rw [HRS.out]; have := HI.out; have := HCC.out; simp [maxLen]; omega)
      have HB2 := Lib.hid (show (rs.length + 1) * 24 ≤ 140737488355328 by rw [HRS.out]; have := HI.out; have := HCC.out; omega)
      have HB3 := Lib.hid (show w.heap.size ≤ ((w1.drew.alloc (.cells (ivs (List.replicate M 0)).toArray 3)).alloc (.cells #[.slice (some ⟨w1.heap.size, 0, none⟩) M M] 45)).heap.size by have := HK.out.size; simp; omega)
      obtain ⟨vao, vcap, rfl, _, _⟩ := owns_shape HOWN.out
      have k2 : Kept Nix w1 ((w1.drew.alloc (.cells (ivs (List.replicate M 0)).toArray 3)).alloc (.cells #[.slice (some ⟨w1.heap.size, 0, none⟩) M M] 45)) := (((Kept.refl Nix w1).drew).alloc _).alloc _
      have K2 := Lib.hid k2
      have KEEP := Lib.hid (show ∀ w6, ((w1.drew.alloc (.cells (ivs (List.replicate M 0)).toArray 3)).alloc (.cells #[.slice (some ⟨w1.heap.size, 0, none⟩) M M] 45)).grownBy w6 (Value.slice vao rs.length vcap).ownBlock →
          ∀ (k : Nat) (cur : Array Value), w1.heap[k]? = some (.cells cur 24 (0, 0)) → w6.heap[k]? = some (.cells cur 24 (0, 0)) from by
        intro w6 hg6 k cur hk
        have hk2 := k2.heap hk id
        refine (hg6.block k (lt_of_heap hk2) (fun e => ?_)).trans hk2
        obtain ⟨cur', hg'⟩ := (HGD.out.kept k2).ownBlock_heap e.symm
        rw [hk2] at hg'
        simp at hg')
      clear hsrc hown2 k2
      have hlt9 := lt_of_heap H9.out
      have hA : (w1.alloc (.cells (ivs (List.replicate M 0)).toArray 3)).drew.cell? ⟨w.heap.size + 1, 2, none⟩ = some (.slice vao rs.length vcap) := by rw [show (w1.alloc (.cells (ivs (List.replicate M 0)).toArray 3)).drew.cell? ⟨w.heap.size + 1, 2, none⟩ = (w1.alloc (.cells (ivs (List.replicate M 0)).toArray 3)).cell? ⟨w.heap.size + 1, 2, none⟩ from rfl, cell_of ((Below.heap_alloc _ _ _ hlt9).trans H9.out)]; rfl
      have hB : ((w1.alloc (.cells (ivs (List.replicate M 0)).toArray 3)).alloc (.cells #[.slice (some ⟨w1.heap.size, 0, none⟩) M M] 45)).drew.cell? ⟨w.heap.size + 1, 2, none⟩ = some (.slice vao rs.length vcap) := by
        have h := cell_of (i := 2) (((Kept.refl Nix w1).alloc (.cells (ivs (List.replicate M 0)).toArray 3)).alloc (.cells #[.slice (some ⟨w1.heap.size, 0, none⟩) M M] 45) |>.heap H9.out id)
        exact h
      clear hlt9
      refine wp_mono (Q := fun e a' w' => match e with
        | .normal => a'.defers = [] ∧ a'.tmps.size = 25 ∧ a'.tmps[3]? = some (.int .i64 (M : Int)) ∧ a'.tmps[8]? = some (.pointer (some ⟨w.heap.size, 0, none⟩)) ∧ a'.tmps[9]? = some (.pointer (some ⟨w.heap.size + 1, 0, none⟩)) ∧ a'.tmps[13]? = some (.int .i64 (C : Int)) ∧ a'.tmps[14]? = some (.int .i64 (i : Int)) ∧
          Kept Nix w w' ∧ w'.heap[w.heap.size]? = some (.cells #[.int .i64 0, .int .i64 0, .slice none 0 0] 24 (0, 0)) ∧ ∃ v' rs', w'.heap[w.heap.size + 1]? = some (.cells #[.int .i64 r, .int .i64 d, v'] 24 (0, 0)) ∧ rs'.length = i + 1 ∧ Grid w.heap.size w' v' M rs' (gridF (i + 1) M (fun _ _ => 0))
        | _ => False) ?_ ?_
      · go_region_law (first | (refine step_app _ rfl (.tmp 17) (.tmp 20) 22 rfl w.heap.size 45 (.slice none 0 0) 1 24 Try.underlying22 info_ints rfl (by decide) (.slice vao rs.length vcap) rs.length (rs.map (irow M)) rfl HOWN2.out (some ⟨w1.heap.size + 1, 0, none⟩) 1 1 [irow M w1.heap.size] rfl HSRC.out HB1.out HB2.out HB3.out ?_; intro v6 w6 o6 g6 n6; obtain ⟨g', cap', rfl, _⟩ := owns_pos o6 (by omega); have q9 := KEEP.out w6 g6 _ _ H9.out; have q8 := KEEP.out w6 g6 _ _ H8.out; have hc9' := cell_of (i := 2) q9; have hf9' := frozen_of (i := 2) q9; have Q9 := Lib.hid q9; have Q8 := Lib.hid q8; have O6 := Lib.hid o6; have G6 := Lib.hid g6; clear q9 q8 o6 g6 n6))
        all_goals
          obtain ⟨s1, s2, s3, s4⟩ := sil_step HK.out H8.out H9.out HGD.out K2.out (Nat.le_refl _) (zs := List.replicate M 0) ((Below.heap_alloc _ _ _ (by simp)).trans (heap_alloc_new w1.drew _)) (by simp) O6.out G6.out (by omega) (by omega)
          rw [grid_zero_succ] at s4
          exact ⟨rfl, rfl, rfl, rfl, rfl, rfl, rfl, s1, s2, _, _, s3, by rw [List.length_append, HRS.out]; rfl, s4⟩
      · rintro e ⟨tm, df⟩ w3 hq
        cases e with
        | normal =>
          obtain ⟨rfl, hs, e3, e8, e9, e13, e14, hk3, h83, v3, rs3, h93, hrs3, hgd3⟩ := hq
          simp only at hs e3 e8 e9 e13 e14
          obtain ⟨f3, hf, hg⟩ := fr_open hs
          have g3 := hg _ _ e3
          have g8 := hg _ _ e8
          have g9 := hg _ _ e9
          have g13 := hg _ _ e13
          have g14 := hg _ _ e14
          simp only [List.range, List.range.loop, List.map] at hf
          rw [g3, g8, g9, g13, g14] at hf
          clear g3 g8 g9 g13 g14 hg hs e3 e8 e9 e13 e14
          subst hf
          have HK3 := Lib.hid hk3
          have H83 := Lib.hid h83
          have H93 := Lib.hid h93
          have HGD3 := Lib.hid hgd3
          have HRS3 := Lib.hid hrs3
          clear hk3 h83 h93 hgd3 hrs3 hA hB hc9 hfz hmk
          have hi1 : i < C := HI.out
          go_wp2
          refine ⟨⟨rfl, rfl, rfl, rfl, rfl, rfl, i + 1, HI.out, by simp, HK3.out, H83.out, v3, rs3, H93.out, HRS3.out, HGD3.out⟩, ?_⟩
          have := HI.out
          simp [intOf]
          omega
        | _ => exact hq.elim
    · have hd : decide (i < C) = false := decide_eq_false hlt
      have hiC : i = C := by omega
      subst hiC
      have hc0 : w1.cell? ⟨w.heap.size + 1, 0, none⟩ = some (.int .i64 r) := by rw [cell_of h9]; rfl
      have hc1 : w1.cell? ⟨w.heap.size + 1, 1, none⟩ = some (.int .i64 d) := by rw [cell_of h9]; rfl
      have hc2 : w1.cell? ⟨w.heap.size + 1, 2, none⟩ = some v := by rw [cell_of h9]; rfl
      have hz0 : w1.cell? ⟨w.heap.size, 0, none⟩ = some (.int .i64 0) := by rw [cell_of h8]; rfl
      obtain ⟨vao, vcap, rfl, _, _⟩ := owns_shape hgd.1
      clear hlt hi hk h8 h9 hrs hgd hmk hM hz0
      go_wp2_with (first | (refine wpList_store_row rfl 24 _ _ rfl _ _ rfl rfl 24 _ H8.out size_sound rfl (one_sound _ _ _ _ _) ?_))
      refine ret_row rfl w.heap.size 24 _ (0, 0) _ rfl (heap_row _ H8.out) Try.underlying24 rfl size_sound rfl ?_
      refine ⟨_, rs, rfl, HK.out.setRow (.inr (Nat.le_refl _)) _, HRS.out, ?_⟩
      refine HGD.out.other (Kept.setRow (S := One w.heap.size) (Kept.refl _ _) (.inl rfl) _) (fun k cur t hk' hh => ?_)
      have hk'' : k = w.heap.size := hk'
      subst hk''
      rw [H8.out] at hh
      cases hh
      exact ⟨by decide, by decide⟩

theorem snum_cons (b : Nat) (B : List Nat) (hB : 0 < B.length) : snum (b :: B) = (b : Int) + 256 * snum B := by
  unfold snum
  have e1 : (b :: B).getD ((b :: B).length - 1) 0 = B.getD (B.length - 1) 0 := by
    cases B with
    | nil => simp at hB
    | cons c B => simp [List.getD]
  rw [e1]
  simp only [le, List.length_cons]
  split
  · rw [Int.pow_succ]; simp; omega
  · simp

theorem snum_one (b : Nat) : snum [b] = (b : Int) - (if 128 ≤ b then 256 else 0) := by
  unfold snum
  simp [le]

theorem snum_bound (B : List Nat) (h : ∀ b ∈ B, b < 256) (h4 : B.length ≤ 4) : -4294967296 ≤ snum B ∧ snum B < 4294967296 := by
  have h1 := le_lt B h
  have h2 : 256 ^ B.length ≤ 256 ^ 4 := Nat.pow_le_pow_right (by omega) h4
  have h3 : (256 : Int) ^ B.length = ((256 ^ B.length : Nat) : Int) := by simp
  unfold snum
  rw [h3]
  generalize 256 ^ B.length = P at *
  split <;> omega

theorem i8_val (b : Nat) (h : b < 256) : wrap64 (IntKind.i8.wrap (b : Int)) = (b : Int) - (if 128 ≤ b then 256 else 0) := by
  have hall : ∀ x : Fin 256, wrap64 (IntKind.i8.wrap ((x.val : Nat) : Int)) = ((x.val : Nat) : Int) - (if 128 ≤ x.val then 256 else 0) := by decide +kernel
  exact hall ⟨b, h⟩

theorem or_low (n : Int) (b : Nat) (h : -8589934592 ≤ n ∧ n ≤ 8589934592) (hb : b < 256) : bits .or .i64 (256 * n) (b : Int) = 256 * n + (b : Int) := by
  show IntKind.i64.wrap ((BitVec.ofInt 64 (256 * n) ||| BitVec.ofInt 64 (b : Int)).toNat : Int) = _
  have h2 : (BitVec.ofInt 64 (b : Int)).toNat = b := by
    rw [BitVec.ofInt_natCast, BitVec.toNat_ofNat]; exact Nat.mod_eq_of_lt (by omega)
  rw [BitVec.toNat_or, h2, BitVec.toNat_ofInt, or_add _ b 8 (by omega) (by omega), IntKind.wrap_i64]
  omega

def SampInv (v : Value) (B : List Nat) (w : World) (a : Act) (w' : World) : Prop :=
  a.defers = [] ∧ a.tmps.size = 30 ∧ a.tmps[0]? = some v ∧ ∃ k : Nat, k < B.length ∧ a.tmps[5]? = some (.int .i64 ((k : Int) - 1)) ∧ a.tmps[4]? = some (.int .i64 (snum (B.drop k))) ∧ w' = w

set_option maxHeartbeats 1000000 in
theorem sample_any (v : Value) (B : List Nat) (w : World) (hs : Sl w v (u8s B)) (hB : ∀ b ∈ B, b < 256) (h1 : 1 ≤ B.length) (h4 : B.length ≤ 4) :
    Calls Try.prog 34 #[v] w fun e w' => e = .returned (.int .i64 (snum B)) ∧ w' = w := by
  obtain ⟨b, off, cap, rfl, _, _, hh⟩ := hs.cells (by omega)
  have HH := Lib.hid hh
  have HB := Lib.hid hB
  have hx := hh (B.length - 1) (by omega)
  have hlast : (B.length : Int) - 1 = ((B.length - 1 : Nat) : Int) := by omega
  have hlt : B.length - 1 < B.length := by omega
  have hb0 : B.getD (B.length - 1) 0 < 256 := by
    rw [List.getD, List.getElem?_eq_getElem hlt, Option.getD_some]
    exact hB _ (List.getElem_mem hlt)
  have hdr : snum (B.drop (B.length - 1)) = ((B.getD (B.length - 1) 0 : Nat) : Int) - (if 128 ≤ B.getD (B.length - 1) 0 then 256 else 0) := by
    rw [List.drop_eq_getElem_cons hlt, List.drop_of_length_le (by omega), snum_one]
    simp [List.getD, hlt]
  have HDR := Lib.hid hdr
  clear hs hh hB hdr
  generalize B.getD (B.length - 1) 0 = bl at *
  generalize hm : B.length - 1 = m at *
  have hm1 : (m : Int) < (B.length : Int) := by omega
  have hm0 : 0 ≤ (m : Int) := by omega
  go_enter Try.func34, Try.ntmps34
  go_wp2
  have h0v : wrap64 (IntKind.i8.wrap (bl : Int)) = snum (B.drop m) := by rw [HDR.out]; exact i8_val bl hb0
  rw [h0v]
  clear h0v HDR hx
  refine wp_loop (SampInv (.slice (some ⟨b, off, none⟩) B.length cap) B w) (fun a _ => (intOf (a.tmps.getD 5 undef) + 1).toNat) ?_ ?_
  · exact ⟨rfl, rfl, rfl, m, hlt, rfl, rfl, rfl⟩
  · rintro ⟨tm, df⟩ w1 ⟨rfl, hs, e0, k, hk, e5, e4, rfl⟩
    simp only at hs e0 e5 e4
    obtain ⟨f, hf, hg⟩ := fr_open hs
    have g0 := hg _ _ e0
    have g5 := hg _ _ e5
    have g4 := hg _ _ e4
    simp only [List.range, List.range.loop, List.map] at hf
    rw [g0, g5, g4] at hf
    clear g0 g5 g4 hg hs e0 e5 e4
    subst hf
    clear hm hm1 hm0 hlt hlast hb0
    cases k with
    | zero =>
      have e1 : (((0 : Nat) : Int) - 1) = -1 := by simp
      rw [e1, List.drop_zero]
      generalize hsn : snum B = sn
      have HSN := Lib.hid hsn
      clear hsn
      go_wp2
      go_ret
      exact ⟨ret_int HSN.out.symm, rfl⟩
    | succ j =>
      have e1 : (((j + 1 : Nat) : Int) - 1) = (j : Int) := by simp
      rw [e1]
      have hx := HH.out j (by omega)
      have hjl : (j : Int) < (B.length : Int) := by omega
      have hj8 : j < 8 := by omega
      have hbj : B.getD j 0 < 256 := by
        rw [List.getD, List.getElem?_eq_getElem (by omega), Option.getD_some]
        exact HB.out _ (List.getElem_mem _)
      have hst : snum (B.drop j) = ((B.getD j 0 : Nat) : Int) + 256 * snum (B.drop (j + 1)) := by
        rw [List.drop_eq_getElem_cons (show j < B.length by omega), snum_cons _ _ (by simp; omega)]
        simp [List.getD, show j < B.length by omega]
      have hbd := snum_bound (B.drop (j + 1)) (fun x hx => HB.out x (List.mem_of_mem_drop hx)) (by simp; omega)
      generalize snum (B.drop (j + 1)) = sn at *
      generalize B.getD j 0 = bj at *
      have hor := or_low sn bj (by omega) hbj
      have hsh : wrap64 (sn * 256) = sn * 256 := w64_in _ (by omega)
      have hsh' : wrap64 (256 * sn) = 256 * sn := w64_in _ (by omega)
      have HWB := Lib.hid (show wrap64 (bj : Int) = (bj : Int) from w64_in _ (by omega))
      have HST := Lib.hid hst
      have HK := Lib.hid hk
      have HOR := Lib.hid hor
      clear hst hbd hbj hk
      go_wp2
      have hfin : bits BinOp.or IntKind.i64 (sn * 256) (wrap64 (bj : Int)) = snum (B.drop j) := by
        rw [HWB.out, Int.mul_comm sn, HOR.out, HST.out]; omega
      rw [hfin, hsh]
      refine ⟨⟨rfl, rfl, rfl, j, by have := HK.out; omega, rfl, rfl, rfl⟩, ?_⟩
      simp [intOf]

end Go.Proofs.Ytpiongdkfebchaa
