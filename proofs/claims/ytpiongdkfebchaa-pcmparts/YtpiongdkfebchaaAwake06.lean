/- The chapter's example: the contract of awake. -/
import Derived.Test.YtpiongdkfebchaaPcmBytes
import Derived.Test.YtpiongdkfebchaaSame
import Derived.Test.YtpiongdkfebchaaCut
namespace Go.Proofs.Ytpiongdkfebchaa
open Go.RowKit Bx

def exL : List (List Int) := [[1, -1], [2, 3]]

theorem ex_chs (w : World) : Chs ((((w.alloc (.cells #[.int .i64 1, .int .i64 (-1)] 3)).alloc (.cells #[.int .i64 2, .int .i64 3] 3)).alloc (.cells #[.slice (some ⟨w.heap.size, 0, none⟩) 2 2, .slice (some ⟨w.heap.size + 1, 0, none⟩) 2 2] 45))) (.slice (some ⟨w.heap.size + 1 + 1, 0, none⟩) 2 2) exL := by
  have h1 := sl_alloc w ([1, -1].map (Value.int .i64)) 3 2 rfl (by simp [maxLen])
  have h2 := sl_alloc (w.alloc (.cells #[.int .i64 1, .int .i64 (-1)] 3)) ([2, 3].map (Value.int .i64)) 3 2 rfl (by simp [maxLen])
  have h3 := sl_alloc ((w.alloc (.cells #[.int .i64 1, .int .i64 (-1)] 3)).alloc (.cells #[.int .i64 2, .int .i64 3] 3)) [.slice (some ⟨w.heap.size, 0, none⟩) 2 2, .slice (some ⟨w.heap.size + 1, 0, none⟩) 2 2] 45 2 rfl (by simp [maxLen])
  simp only [World.size_alloc] at h2 h3
  refine ⟨[.slice (some ⟨w.heap.size, 0, none⟩) 2 2, .slice (some ⟨w.heap.size + 1, 0, none⟩) 2 2], h3, rfl, fun i hi => ?_⟩
  match i, hi with
  | 0, _ => exact ⟨_, rfl, h1.nix (((Kept.refl _ _).alloc _).alloc _)⟩
  | 1, _ => exact ⟨_, rfl, h2.nix ((Kept.refl _ _).alloc _)⟩

theorem ex_bytes : (if chkE 8000 12 exL = 0 then bytesOf exL 12 else []) = [1, 0, 2, 0, 255, 255, 3, 0] := by decide +kernel
theorem ex_check : chkE 8000 12 exL = 0 := by decide +kernel
theorem ex_in : inD (-1) 12 = true := by decide +kernel
theorem ex_many : manyN exL = 2 := rfl

set_option maxHeartbeats 1000000 in
theorem awake_any (w : World) : Calls Try.prog 9 #[] w fun e w' => e = .returned (.bool true) ∧ Kept Nix w w' := by
  have hch := ex_chs w
  have k3 : Kept Nix w ((((w.alloc (.cells #[.int .i64 1, .int .i64 (-1)] 3)).alloc (.cells #[.int .i64 2, .int .i64 3] 3)).alloc (.cells #[.slice (some ⟨w.heap.size, 0, none⟩) 2 2, .slice (some ⟨w.heap.size + 1, 0, none⟩) 2 2] 45))) := (((Kept.refl _ w).alloc _).alloc _).alloc _
  have hsz : ((((w.alloc (.cells #[.int .i64 1, .int .i64 (-1)] 3)).alloc (.cells #[.int .i64 2, .int .i64 3] 3)).alloc (.cells #[.slice (some ⟨w.heap.size, 0, none⟩) 2 2, .slice (some ⟨w.heap.size + 1, 0, none⟩) 2 2] 45))).heap.size = w.heap.size + 3 := by simp
  have HCH := Lib.hid hch
  have K3 := Lib.hid k3
  have HSZ := Lib.hid hsz
  clear hch k3 hsz
  go_enter Try.func9, Try.ntmps9
  go_upto_region 2 with fail
  generalize ((((w.alloc (.cells #[.int .i64 1, .int .i64 (-1)] 3)).alloc (.cells #[.int .i64 2, .int .i64 3] 3)).alloc (.cells #[.slice (some ⟨w.heap.size, 0, none⟩) 2 2, .slice (some ⟨w.heap.size + 1, 0, none⟩) 2 2] 45))) = w3 at *
  have k4 : Kept Nix w3 (w3.alloc (.cells #[.int .i64 8000, .int .i64 12, .slice (some ⟨w.heap.size + 1 + 1, 0, none⟩) 2 2] 24)) := (Kept.refl _ _).alloc _
  have hb : (w3.alloc (.cells #[.int .i64 8000, .int .i64 12, .slice (some ⟨w.heap.size + 1 + 1, 0, none⟩) 2 2] 24)).heap[w.heap.size + 1 + 1 + 1]? = some (.cells #[.int .i64 8000, .int .i64 12, .slice (some ⟨w.heap.size + 1 + 1, 0, none⟩) 2 2] 24 (0, 0)) := heap_new (by have := HSZ.out; omega)
  generalize (w3.alloc (.cells #[.int .i64 8000, .int .i64 12, .slice (some ⟨w.heap.size + 1 + 1, 0, none⟩) 2 2] 24)) = w4 at *
  have HC4 := Lib.hid (HCH.out.nix k4)
  have K4 := Lib.hid (nix_trans K3.out k4)
  have HB4 := Lib.hid hb
  have h0 : w4.cell? ⟨w.heap.size + 1 + 1 + 1, 0, none⟩ = some (.int .i64 8000) := by rw [cell_of hb]; rfl
  have h1 : w4.cell? ⟨w.heap.size + 1 + 1 + 1, 1, none⟩ = some (.int .i64 12) := by rw [cell_of hb]; rfl
  have h2 : w4.cell? ⟨w.heap.size + 1 + 1 + 1, 2, none⟩ = some (.slice (some ⟨w.heap.size + 1 + 1, 0, none⟩) 2 2) := by rw [cell_of hb]; rfl
  have HBY := bytes_any 8000 12 _ exL w4 HC4.out (by decide)
  rw [ex_bytes] at HBY
  clear hb k4 HCH K3 HSZ
  generalize w.heap.size + 1 + 1 + 1 = p at *
  generalize w.heap.size + 1 + 1 = q at *
  go_wp2_with (first
    | (go_at_call 23; refine HBY.mono ?_; rintro e w5 ⟨u, rfl, hs5, k5⟩; have HS5 := Lib.hid hs5; have K5 := Lib.hid k5; clear hs5 k5 HBY h0 h1 h2)
    | (go_at_call 22; refine (same_any u _ [1, 0, 2, 0, 255, 255, 3, 0] [1, 0, 2, 0, 255, 255, 3, 0] _ (HS5.out.nix ((Kept.refl _ _).alloc _)) (sl_alloc w5 (u8s [1, 0, 2, 0, 255, 255, 3, 0]) 5 8 rfl (by simp [maxLen])) (by decide)).mono ?_
       rintro e w6 ⟨rfl, nn, rfl⟩
       have k6 : Kept Nix w4 ((w5.alloc (.cells (u8s [1, 0, 2, 0, 255, 255, 3, 0]).toArray 5)).drewN nn) := ((K5.out.alloc _).drewN _)
       have hb6 := k6.heap HB4.out id
       have h0 := cell_of (i := 0) hb6
       have h1 := cell_of (i := 1) hb6
       have h2 := cell_of (i := 2) hb6
       have HC6 := check_any 8000 12 _ exL _ (HC4.out.nix k6) (by decide)
       rw [ex_check] at HC6
       have K6 := Lib.hid k6
       clear k6 hb6 HS5 K5)
    | (go_at_call 11; refine HC6.mono ?_
       rintro e w7 ⟨rfl, k7⟩
       have K7 := Lib.hid (nix_trans K6.out k7)
       have hb7 := (nix_trans K6.out k7).heap HB4.out id
       clear h0 h1 h2 HC6 K6 k7
       have h0 := cell_of (i := 0) hb7
       have h1 := cell_of (i := 1) hb7
       have h2 := cell_of (i := 2) hb7
       clear hb7)
    | (go_at_call 15; refine (in_any _ _ _).mono ?_; rintro e w8 ⟨rfl, rfl⟩; rw [ex_in])
    | (go_at_call 13; refine (many_any 8000 12 _ exL _ (HC4.out.nix K7.out)).mono ?_; rintro e w9 ⟨rfl, k9⟩; rw [ex_many]; have K9 := Lib.hid (nix_trans K7.out k9); clear k9))
  go_ret
  exact ⟨rfl, nix_trans K4.out K9.out⟩

end Go.Proofs.Ytpiongdkfebchaa
