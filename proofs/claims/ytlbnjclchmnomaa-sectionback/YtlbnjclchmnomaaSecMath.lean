/- What is left as bits: the bits of a section; what is taken of any bytes, part by part, number by number: all in numbers. No program. -/
import Derived.Test.YtlbnjclchmnomaaRiceBits
import Derived.Test.YtlbnjclchmnomaaPk9
namespace Go.Proofs.Ytlbnjclchmnomaa
open Go.RowKit Bx

/-- A number without its sign's weight, as its bits stand. -/
def u64n (n : Int) : Nat := (n % 18446744073709551616).toNat

/-- A number's bits by a way. -/
def nb (r : Bool) (k : Int) (n : Int) : List Bool := if r = true then dg k.toNat (u64n n) else rbits n k
/-- What stands ahead of a part's numbers. -/
def ahb (wd : Bool) (p : Int × Bool) : List Bool := if p.2 = true then dg (wA wd) (wM wd + 1) ++ dg 5 p.1.toNat else dg (wA wd) p.1.toNat
/-- A part's bits. -/
def ptb (wd : Bool) (Q : List Int) (p : Int × Bool) : List Bool := ahb wd p ++ Q.flatMap (nb p.2 p.1)
/-- The bits of the part with a number. -/
def pti (wd : Bool) (P : List (List Int)) (ps : List (Int × Bool)) (i : Nat) : List Bool := ptb wd (P.getD i []) (ps.getD i (0, false))
def hdb (wd : Bool) (o : Nat) : List Bool := dg 2 wd.toNat ++ dg 4 o
/-- A section's bits. -/
def secB (wd : Bool) (o : Nat) (P : List (List Int)) (ps : List (Int × Bool)) : List Bool := hdb wd o ++ (List.range P.length).flatMap (pti wd P ps)

/-- Is one of a part's numbers too long? -/
def lng (Q : List Int) (p : Int × Bool) : Bool := !p.2 && Q.any (fun n => decide (65535 < fd n / 2 ^ kk p.1))
def lngs (P : List (List Int)) (ps : List (Int × Bool)) : Bool := (List.range P.length).any (fun i => lng (P.getD i []) (ps.getD i (0, false)))

/-- A number of k bits with a sign. -/
def sgn (k v : Nat) : Int := if k = 0 then 0 else if v < 2 ^ (k - 1) then (v : Int) else (v : Int) - 2 ^ k

/-- How a part is written, as it is taken; where the reader is then. -/
structure KT where
  p : Int × Bool
  a : Nat
  f : Nat
def tkPart (B : List Nat) (wd : Bool) (a f : Nat) : KT :=
  if rval B a f (wA wd) = wM wd + 1 then ⟨((rval B (rat B a f (wA wd)) (rfail B a f (wA wd)) 5 : Nat), true), rat B (rat B a f (wA wd)) (rfail B a f (wA wd)) 5, rfail B (rat B a f (wA wd)) (rfail B a f (wA wd)) 5⟩
  else ⟨((rval B a f (wA wd) : Nat), false), rat B a f (wA wd), rfail B a f (wA wd)⟩

/-- A number, as it is taken. -/
structure VT where
  x : Int
  a : Nat
  f : Nat
def tkNum (B : List Nat) (p : Int × Bool) (a f : Nat) : VT :=
  if p.2 = true then ⟨sgn p.1.toNat (rval B a f p.1.toNat), rat B a f p.1.toNat, rfail B a f p.1.toNat⟩ else ⟨tkv B a f (kk p.1), tka B a f (kk p.1), tkf B a f (kk p.1)⟩

/-- Is it too wide? -/
def farN (x : Int) : Bool := decide (x ≤ -2147483648) || decide (2147483648 ≤ x)
/-- What is wrong with it. -/
def tkE (f : Nat) (x : Int) : Nat := if f ≠ 0 then f else if farN x = true then 14 else 0

/-- Numbers that were taken. -/
structure NT where
  xs : List Int
  a : Nat
  f : Nat
  e : Nat
def tnNext (B : List Nat) (p : Int × Bool) (s : NT) : NT :=
  if s.e ≠ 0 then s else if tkE (tkNum B p s.a s.f).f (tkNum B p s.a s.f).x ≠ 0 then ⟨s.xs, (tkNum B p s.a s.f).a, (tkNum B p s.a s.f).f, tkE (tkNum B p s.a s.f).f (tkNum B p s.a s.f).x⟩
  else ⟨s.xs ++ [(tkNum B p s.a s.f).x], (tkNum B p s.a s.f).a, (tkNum B p s.a s.f).f, 0⟩
def tn (B : List Nat) (p : Int × Bool) (a f : Nat) : Nat → NT
  | 0 => ⟨[], a, f, 0⟩
  | j + 1 => tnNext B p (tn B p a f j)

/-- Numbers laid in a list, from a place on. -/
def lay (ls : List Int) (z : Nat) (xs : List Int) : List Int := ls.take z ++ xs ++ ls.drop (z + xs.length)

/-- Parts that were taken. -/
structure PT where
  ls : List Int
  ps : List (Int × Bool)
  a : Nat
  f : Nat
  e : Nat
def ptNums (B : List Nat) (wd : Bool) (C : List Nat) (s : PT) (i : Nat) : NT := tn B (tkPart B wd s.a s.f).p (tkPart B wd s.a s.f).a (tkPart B wd s.a s.f).f (C.getD i 0)
def ptNext (B : List Nat) (wd : Bool) (C : List Nat) (s : PT) (i : Nat) : PT :=
  if s.e ≠ 0 then s else ⟨lay s.ls (C.take i).sum (ptNums B wd C s i).xs, s.ps ++ [(tkPart B wd s.a s.f).p], (ptNums B wd C s i).a, (ptNums B wd C s i).f, (ptNums B wd C s i).e⟩
def pts0 (n a f : Nat) : PT := ⟨List.replicate n 0, [], a, f, 0⟩
def ptFold (B : List Nat) (wd : Bool) (C : List Nat) (s : PT) (is : List Nat) : PT := is.foldl (ptNext B wd C) s

/-- A plan without its parts, as it is taken. -/
structure HT where
  wd : Bool
  o : Nat
  a : Nat
  f : Nat
  e : Nat
def tkAhead (B : List Nat) (a f : Nat) : HT :=
  if 1 < rval B a f 2 then ⟨false, 0, rat B a f 2, rfail B a f 2, 8⟩
  else ⟨rval B a f 2 == 1, rval B (rat B a f 2) (rfail B a f 2) 4, rat B (rat B a f 2) (rfail B a f 2) 4, rfail B (rat B a f 2) (rfail B a f 2) 4, rfail B (rat B a f 2) (rfail B a f 2) 4⟩

/-- A section, as it is taken. -/
structure ST where
  wd : Bool
  o : Nat
  ls : List Int
  ps : List (Int × Bool)
  a : Nat
  f : Nat
  e : Nat
def skE (block order : Int) : Bool := decide (order < 0) || (decide (32 < order) || (decide (block ≤ order) || decide (65535 < block)))
def tkSec (B : List Nat) (a f : Nat) (block order : Int) : ST :=
  if skE block order = true then ⟨false, 0, [], [], a, f, 1⟩
  else if (tkAhead B a f).e ≠ 0 then ⟨false, 0, [], [], (tkAhead B a f).a, (tkAhead B a f).f, (tkAhead B a f).e⟩
  else if cutOk (block - order).toNat order.toNat (tkAhead B a f).o = false then ⟨false, 0, [], [], (tkAhead B a f).a, (tkAhead B a f).f, 5⟩
  else
    let s := ptFold B (tkAhead B a f).wd (cts (block - order).toNat order.toNat (tkAhead B a f).o) (pts0 (block - order).toNat (tkAhead B a f).a (tkAhead B a f).f) (List.range (cts (block - order).toNat order.toNat (tkAhead B a f).o).length)
    if s.e ≠ 0 then ⟨false, 0, [], [], s.a, s.f, s.e⟩ else ⟨(tkAhead B a f).wd, (tkAhead B a f).o, s.ls, s.ps, s.a, s.f, 0⟩

theorem wA_cases (wd : Bool) : (wd = true ∧ wA wd = 5 ∧ wM wd = 30) ∨ (wd = false ∧ wA wd = 4 ∧ wM wd = 14) := by
  cases wd
  · exact .inr ⟨rfl, rfl, rfl⟩
  · exact .inl ⟨rfl, rfl, rfl⟩

theorem wM_top (wd : Bool) : wM wd + 1 = 2 ^ wA wd - 1 := by cases wd <;> rfl

theorem sgn_shift (k v : Nat) (hk : k ≤ 31) (hv : v < 2 ^ k) : wrap64 (IntKind.u64.wrap ((v : Int) * 2 ^ (64 - k))) / 2 ^ (64 - k) = sgn k v := by
  by_cases h0 : k = 0
  · subst h0
    have : v = 0 := by omega
    subst this
    simp [sgn, wrap64, IntKind.wrap_u64]
  · obtain ⟨j, rfl⟩ : ∃ j, k = j + 1 := ⟨k - 1, by omega⟩
    have e1 : 2 ^ j * 2 ^ (64 - (j + 1)) = 9223372036854775808 := by rw [← Nat.pow_add, show j + (64 - (j + 1)) = 63 by omega]
    have hM := Nat.two_pow_pos (64 - (j + 1))
    rw [Nat.pow_succ] at hv
    have hc : ((2 : Int) ^ (64 - (j + 1))) = ((2 ^ (64 - (j + 1)) : Nat) : Int) := by simp
    have hd : ((2 : Int) ^ (j + 1)) = 2 * ((2 ^ j : Nat) : Int) := by rw [Int.pow_succ]; simp; omega
    unfold sgn
    rw [if_neg (by omega), Nat.add_sub_cancel, hc, hd]
    generalize 2 ^ (64 - (j + 1)) = M at *
    generalize 2 ^ j = H at *
    have h2 : v * M < 2 * (H * M) := by rw [← Nat.mul_assoc, Nat.mul_comm 2 H]; exact Nat.mul_lt_mul_of_pos_right hv hM
    have e3 : IntKind.u64.wrap ((v : Int) * (M : Int)) = ((v * M : Nat) : Int) := by
      rw [IntKind.wrap_u64, ← Int.natCast_mul]
      omega
    rw [e3]
    by_cases h : v < H
    · rw [if_pos h]
      have h3 : v * M < H * M := Nat.mul_lt_mul_of_pos_right h hM
      have e4 : wrap64 ((v * M : Nat) : Int) = (v : Int) * (M : Int) := by
        rw [← Int.natCast_mul]; unfold wrap64; omega
      rw [e4, Int.mul_ediv_cancel _ (by omega)]
    · rw [if_neg h]
      have h3 : H * M ≤ v * M := Nat.mul_le_mul_right _ (by omega)
      have e5 : (v : Int) * (M : Int) - 2 * ((H : Int) * (M : Int)) = ((v : Int) - 2 * (H : Int)) * (M : Int) := by
        rw [Int.sub_mul, Int.mul_assoc]
      have e4 : wrap64 ((v * M : Nat) : Int) = ((v : Int) - 2 * (H : Int)) * (M : Int) := by
        rw [← e5, ← Int.natCast_mul, ← Int.natCast_mul]; unfold wrap64; omega
      rw [e4, Int.mul_ediv_cancel _ (by omega)]

theorem rval_lt (B : List Nat) (a f k : Nat) : rval B a f k < 2 ^ k := by
  unfold rval
  cases short B a f k
  · exact Nat.mod_lt _ (Nat.two_pow_pos k)
  · exact Nat.two_pow_pos k

theorem tkPart_small (B : List Nat) (wd : Bool) (a f : Nat) : 0 ≤ (tkPart B wd a f).p.1 ∧ (tkPart B wd a f).p.1 ≤ 31 := by
  unfold tkPart
  have h1 := rval_lt B (rat B a f (wA wd)) (rfail B a f (wA wd)) 5
  have h2 := rval_lt B a f (wA wd)
  split
  · simp only
    omega
  · rcases wA_cases wd with ⟨rfl, e, -⟩ | ⟨rfl, e, -⟩
    · rw [e] at h2 ⊢; simp only; omega
    · rw [e] at h2 ⊢; simp only; omega

theorem tn_len {B : List Nat} {p : Int × Bool} {a f : Nat} (j : Nat) (h : (tn B p a f j).e = 0) : (tn B p a f j).xs.length = j := by
  induction j with
  | zero => rfl
  | succ j ih =>
    simp only [tn, tnNext] at h ⊢
    by_cases h0 : (tn B p a f j).e = 0
    · rw [if_neg (by simp [h0])] at h ⊢
      split at h
      · exact absurd h (by assumption)
      · next h1 =>
        rw [if_neg h1]
        simp [ih h0]
    · rw [if_pos h0] at h
      exact absurd h h0

theorem tn_stuck {B : List Nat} {p : Int × Bool} {a f : Nat} {j : Nat} (h : (tn B p a f j).e ≠ 0) (m : Nat) : tn B p a f (j + m) = tn B p a f j := by
  induction m with
  | zero => rfl
  | succ m ih =>
    show tnNext B p (tn B p a f (j + m)) = _
    rw [ih]
    unfold tnNext
    rw [if_pos h]

theorem tn_step {B : List Nat} {p : Int × Bool} {a f : Nat} {j : Nat} (h : (tn B p a f j).e = 0) (h2 : tkE (tkNum B p (tn B p a f j).a (tn B p a f j).f).f (tkNum B p (tn B p a f j).a (tn B p a f j).f).x = 0) :
    tn B p a f (j + 1) = ⟨(tn B p a f j).xs ++ [(tkNum B p (tn B p a f j).a (tn B p a f j).f).x], (tkNum B p (tn B p a f j).a (tn B p a f j).f).a, (tkNum B p (tn B p a f j).a (tn B p a f j).f).f, 0⟩ := by
  show tnNext B p (tn B p a f j) = _
  unfold tnNext
  rw [if_neg (by simp [h]), if_neg (by simp [h2])]

theorem tn_fail {B : List Nat} {p : Int × Bool} {a f : Nat} {j : Nat} (h : (tn B p a f j).e = 0) (h2 : tkE (tkNum B p (tn B p a f j).a (tn B p a f j).f).f (tkNum B p (tn B p a f j).a (tn B p a f j).f).x ≠ 0) :
    tn B p a f (j + 1) = ⟨(tn B p a f j).xs, (tkNum B p (tn B p a f j).a (tn B p a f j).f).a, (tkNum B p (tn B p a f j).a (tn B p a f j).f).f, tkE (tkNum B p (tn B p a f j).a (tn B p a f j).f).f (tkNum B p (tn B p a f j).a (tn B p a f j).f).x⟩ := by
  show tnNext B p (tn B p a f j) = _
  unfold tnNext
  rw [if_neg (by simp [h]), if_pos h2]

theorem lay_length {ls xs : List Int} {z : Nat} (h : z + xs.length ≤ ls.length) : (lay ls z xs).length = ls.length := by
  unfold lay
  simp only [List.length_append, List.length_take, List.length_drop]
  omega

theorem lay_nil (ls : List Int) (z : Nat) : lay ls z [] = ls := by simp [lay]

theorem lay_snoc {ls xs : List Int} {z : Nat} (h : z + xs.length < ls.length) (x : Int) : lay ls z (xs ++ [x]) = (lay ls z xs).set (z + xs.length) x := by
  obtain ⟨y, e⟩ : ∃ y, ls.drop (z + xs.length) = y :: ls.drop (z + xs.length + 1) := ⟨_, List.drop_eq_getElem_cons h⟩
  have hl : (ls.take z ++ xs).length = z + xs.length := by simp; omega
  have e2 : ∀ T : List Int, (ls.take z ++ xs ++ y :: T).set (z + xs.length) x = ls.take z ++ xs ++ x :: T := fun T => by
    rw [List.set_append_right _ _ (by omega), hl, Nat.sub_self]
    rfl
  unfold lay
  rw [e, e2]
  simp [Nat.add_assoc]

theorem ptFold_snoc (B : List Nat) (wd : Bool) (C : List Nat) (s : PT) (is : List Nat) (i : Nat) : ptFold B wd C s (is ++ [i]) = ptNext B wd C (ptFold B wd C s is) i := by
  unfold ptFold
  rw [List.foldl_append]
  rfl

theorem ptNext_stuck {B : List Nat} {wd : Bool} {C : List Nat} {s : PT} (h : s.e ≠ 0) (i : Nat) : ptNext B wd C s i = s := by
  unfold ptNext
  rw [if_pos h]

theorem ptFold_stuck {B : List Nat} {wd : Bool} {C : List Nat} {s : PT} (h : s.e ≠ 0) : ∀ is, ptFold B wd C s is = s
  | [] => rfl
  | i :: is => by
    show ptFold B wd C (ptNext B wd C s i) is = s
    rw [ptNext_stuck h]
    exact ptFold_stuck h is

theorem range_split {k n : Nat} (h : k ≤ n) : ∃ r, List.range n = List.range k ++ r := by
  refine ⟨(List.range n).drop k, ?_⟩
  have h2 : (List.range n).take k = List.range k := by rw [List.take_range, Nat.min_eq_left h]
  rw [← h2, List.take_append_drop]

theorem ptFold_early {B : List Nat} {wd : Bool} {C : List Nat} {s : PT} {k n : Nat} (h : k ≤ n) (he : (ptFold B wd C s (List.range k)).e ≠ 0) : ptFold B wd C s (List.range n) = ptFold B wd C s (List.range k) := by
  obtain ⟨r, hr⟩ := range_split h
  rw [hr]
  unfold ptFold at he ⊢
  rw [List.foldl_append]
  exact ptFold_stuck he r

theorem u64n_wrap (n : Int) : IntKind.u64.wrap n = (u64n n : Int) := by
  rw [IntKind.wrap_u64]
  unfold u64n
  omega

end Go.Proofs.Ytlbnjclchmnomaa
