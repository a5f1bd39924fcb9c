/- The reference's Same: two rows of bytes. -/
import Derived.Test.YtpbfmbmdagpmpaaKit
namespace Go.Proofs.Ytpbfmbmdagpmpaa
open Go.RowKit Bx

def SameInv (va vb : Value) (A B : List Nat) (w : World) (a : Act) (w' : World) : Prop :=
  a.defers = [] ∧ a.tmps.size = 26 ∧ a.tmps[0]? = some va ∧ a.tmps[1]? = some vb ∧ ∃ i, i ≤ A.length ∧ a.tmps[5]? = some (.int .i64 ((i : Nat) : Int)) ∧ A.take i = B.take i ∧ ∃ n, w' = w.drewN n

end Go.Proofs.Ytpbfmbmdagpmpaa
