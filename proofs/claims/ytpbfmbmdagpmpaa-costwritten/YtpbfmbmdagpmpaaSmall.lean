/- Contracts of the remaining functions of package bits, and of the reference's Same. -/
import Derived.Test.YtpbfmbmdagpmpaaSlice
import Derived.Test.YtpbfmbmdagpmpaaSame
import Derived.Test.YtpbfmbmdagpmpaaPut
import Derived.Test.YtpbfmbmdagpmpaaReader
namespace Go.Proofs.Ytpbfmbmdagpmpaa
open Go.RowKit Bx

def NewPost (base : Nat) (w : World) (e : Ending) (w' : World) : Prop :=
  ∃ p, e = .returned (.pointer (some ⟨p, 0, none⟩)) ∧ w.heap.size ≤ p ∧ Wr base w' p (.slice none 0 0) 0 0 0 ∧ Kept Nix w w'

set_option maxHeartbeats 400000 in
theorem new_any (base : Nat) (w : World) (hb : base ≤ w.heap.size) : Calls Try.prog 19 #[] w (NewPost base w) := by
  go_enter Try.func19, Try.ntmps19
  go_wp2
  go_ret
  refine ⟨w.heap.size, rfl, Nat.le_refl _, ⟨hb, heap_alloc_new w _, by simp [Value.ownBlock], [], World.ownsRow_nil _ _ _ _, pk_nil⟩, (Kept.refl _ _).alloc _⟩

set_option maxHeartbeats 400000 in
theorem len_any (base p : Nat) (v : Value) (N c r : Nat) (w : World) (h : Wr base w p v N c r) : Calls Try.prog 21 #[.pointer (some ⟨p, 0, none⟩)] w fun e w' => e = .returned (.int .i64 (c : Int)) ∧ w = w' := by
  have hc1 := cell_of (i := 1) h.2.1
  simp only [List.getElem?_toArray, List.getElem?_cons_zero, List.getElem?_cons_succ] at hc1
  clear h
  go_enter Try.func21, Try.ntmps21
  go_wp2
  go_ret
  exact ⟨rfl, rfl⟩

/-- A writer filled: as many bits 0 as are missing to a byte. -/
def pad (c : Nat) : Nat := (8 - c % 8) % 8

def ClonePost (base : Nat) (w : World) (B : List Nat) (e : Ending) (w' : World) : Prop :=
  ∃ v', e = .returned v' ∧ w'.ownsRow base 5 1 v' B.length (u8s B) ∧ Kept Nix w w' ∧ ∀ k, v'.ownBlock = some k → w.heap.size ≤ k

/-- What End tells. -/
def rend (B : List Nat) (at_ fl : Nat) : Nat := bif decide (fl = 0) && decide (at_ < 8 * B.length) then 3 else fl

/-- Where Fill leaves the reader. -/
def fat (B : List Nat) (at_ fl : Nat) : Nat := bif rval B at_ fl (pad at_) != 0 then at_ else rat B at_ fl (pad at_)
def ffail (B : List Nat) (at_ fl : Nat) : Nat := bif rval B at_ fl (pad at_) != 0 then 5 else rfail B at_ fl (pad at_)

end Go.Proofs.Ytpbfmbmdagpmpaa
