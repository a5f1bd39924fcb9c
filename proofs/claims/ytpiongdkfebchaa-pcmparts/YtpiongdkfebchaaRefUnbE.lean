/- The reference of layer 6: Unbytes: behind all rounds. -/
import Derived.Test.YtpiongdkfebchaaRefUnbT
namespace Go.Proofs.Ytpiongdkfebchaa
open Go.RowKit Bx

noncomputable def runbEnd : Code := (fromR 24 (Try.f20.body.getD .skip)).getD .skip

def headC : Code → Code
  | .seq a _ => a
  | c => c
def restC : Code → Code
  | .seq _ b => b
  | _ => .skip

set_option maxHeartbeats 1000000 in
theorem runb_end (B : List Nat) (r d : Int) (C : Nat) (p13 g : Nat) (us : List Value) (L : List (List Int)) (a : Act) (w w1 : World) (hdf : a.defers = []) (hsz : a.tmps.size = 103) (e8 : a.tmps[8]? = some (.pointer (some ⟨w.heap.size, 0, none⟩))) (e13 : a.tmps[13]? = some (.pointer (some ⟨p13, 0, none⟩)))
    (hk : Kept Nix w w1) (h8 : w1.heap[w.heap.size]? = some (.cells z3 24 (0, 0))) (h13 : w1.heap[p13]? = some (.cells #[.int .i64 r, .int .i64 d, .slice (some ⟨g, 0, none⟩) C C] 24 (0, 0))) (hst : Stack w.heap.size g w1 us L) (hC : C ≤ 8) (hL : L.length = C)
    (hE : unbE B r d (C : Int) = 0) (hLL : L = unbL B (eachN d) C (B.length / (eachN d * C))) (K : Act → World → Prop) (hK : ∀ a w', Code.wp Try.prog (restC runbEnd) (bodyPost Try.prog Try.f20 (UnbPost B r d (C : Int) w)) a w' → K a w') : Code.wp Try.prog (headC runbEnd) (Exit.then K (bodyPost Try.prog Try.f20 (UnbPost B r d (C : Int) w))) a w1 := by
  obtain ⟨tm, df⟩ := a
  simp only at hdf hsz e8 e13
  subst hdf
  obtain ⟨f, hf, hg'⟩ := fr_open hsz
  have g8 := hg' _ _ e8
  have g13 := hg' _ _ e13
  simp only [List.range, List.range.loop, List.map] at hf
  rw [g8, g13] at hf
  clear g8 g13 hg' hsz e8 e13
  subst hf
  have x0 : w1.cell? ⟨p13, 0, none⟩ = some (.int .i64 r) := by rw [cell_of h13]; rfl
  have x1 : w1.cell? ⟨p13, 1, none⟩ = some (.int .i64 d) := by rw [cell_of h13]; rfl
  have x2 : w1.cell? ⟨p13, 2, none⟩ = some (.slice (some ⟨g, 0, none⟩) C C) := by rw [cell_of h13]; rfl
  have HST := Lib.hid hst
  have HK := Lib.hid hk
  have H8 := Lib.hid h8
  have HC := Lib.hid hC
  have HL := Lib.hid hL
  have HE := Lib.hid hE
  have HLL := Lib.hid hLL
  have HKK := Lib.hid hK
  clear hst hk h8 h13 hC hL hE hLL hK
  conv => arg 2; whnf
  go_wp2_with (refine wpList_store_row rfl 24 _ _ rfl _ _ rfl rfl 24 _ H8.out size_sound rfl (one_sound _ _ _ _ _) ?_)
  refine HKK.out _ _ ?_
  conv => arg 2; whnf
  go_wp2
  have hst := HST.out.beside #[.int .i64 r, .int .i64 d, .slice (some ⟨g, 0, none⟩) C C] H8.out
  have hch := hst.chs (by rw [HL.out]; simp [maxLen]; have := HC.out; omega)
  rw [HL.out] at hch
  refine bodyPost_ret (results_sound1 rfl _ _ w.heap.size _ 0 rfl (heap_row _ H8.out) rfl rfl) rfl ⟨r, d, _, L, by rw [HE.out], HK.out.setRow (.inr (Nat.le_refl _)) _, hch, ?_⟩
  unfold unbSound
  rw [HE.out, HLL.out]
  rfl

end Go.Proofs.Ytpiongdkfebchaa
