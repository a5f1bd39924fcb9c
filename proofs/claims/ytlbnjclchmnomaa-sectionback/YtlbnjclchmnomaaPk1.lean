/- Plain facts on bytes and numbers: a row of bytes as one number, the highest byte first; parts of a number by powers of two. No Go text, no program. Worlds and frames: what a call keeps of the memory that was there; a frame of which only some slots are known. The builtin append onto a slice that the call owns, from a source of whatever make: where the new value lies is told, too. -/
import Derived.WalkKit
import Derived.Below
import Derived.Lib.Hide
import Derived.Deep.Draws

namespace Go.Proofs.Ytlbnjclchmnomaa
namespace Bx

/-- A row of bytes as one number. -/
def be (l : List Nat) : Nat := l.foldl (fun a b => a * 256 + b) 0

theorem be_nil : be [] = 0 := rfl
theorem be_snoc (l : List Nat) (b : Nat) : be (l ++ [b]) = be l * 256 + b := by simp [be, List.foldl_append]

theorem snoc_cases {α : Type} (l : List α) : l = [] ∨ ∃ i x, l = i ++ [x] := by
  cases h : l.reverse with
  | nil => exact .inl (by simpa using h)
  | cons x i => exact .inr ⟨i.reverse, x, by rw [← List.reverse_reverse l, h]; simp⟩

theorem snoc_of_pos {α : Type} (l : List α) (h : 0 < l.length) : ∃ i x, l = i ++ [x] := by
  rcases snoc_cases l with rfl | h'
  · simp at h
  · exact h'

theorem be_lt : ∀ (n : Nat) (l : List Nat), l.length = n → (∀ b ∈ l, b < 256) → be l < 2 ^ (8 * n) := by
  intro n
  induction n with
  | zero => intro l hl _; have : l = [] := List.eq_nil_of_length_eq_zero hl; subst this; simp [be]
  | succ n ih =>
    intro l hl hb
    obtain ⟨i, x, rfl⟩ := snoc_of_pos l (by omega)
    have h1 := ih i (by simpa using hl) (fun b h => hb b (by simp [h]))
    have h2 := hb x (by simp)
    rw [be_snoc, show 8 * (n + 1) = 8 * n + 8 by omega, Nat.pow_add]
    omega

theorem be_inj : ∀ (n : Nat) (l m : List Nat), l.length = n → m.length = n → (∀ b ∈ l, b < 256) → (∀ b ∈ m, b < 256) → be l = be m → l = m := by
  intro n
  induction n with
  | zero => intro l m hl hm _ _ _; rw [List.eq_nil_of_length_eq_zero hl, List.eq_nil_of_length_eq_zero hm]
  | succ n ih =>
    intro l m hl hm hb hc he
    obtain ⟨i, x, rfl⟩ := snoc_of_pos l (by omega)
    obtain ⟨j, y, rfl⟩ := snoc_of_pos m (by omega)
    have hx := hb x (by simp)
    have hy := hc y (by simp)
    rw [be_snoc, be_snoc] at he
    have h1 : be i = be j := by omega
    have h2 : x = y := by omega
    rw [ih i j (by simpa using hl) (by simpa using hm) (fun b h => hb b (by simp [h])) (fun b h => hc b (by simp [h])) h1, h2]

/-- Byte number i of a row, out of its number. -/
theorem be_get : ∀ (n : Nat) (l : List Nat) (i : Nat), l.length = n → (∀ b ∈ l, b < 256) → i < n → l.getD i 0 = be l / 2 ^ (8 * (n - 1 - i)) % 256 := by
  intro n
  induction n with
  | zero => intro l i _ _ h; omega
  | succ n ih =>
    intro l i hl hb hi
    obtain ⟨j, x, rfl⟩ := snoc_of_pos l (by omega)
    have hj : j.length = n := by simpa using hl
    have hx := hb x (by simp)
    rw [be_snoc]
    by_cases hin : i < n
    · have h1 := ih j i hj (fun b h => hb b (by simp [h])) hin
      have e1 : (j ++ [x]).getD i 0 = j.getD i 0 := by simp [List.getD, List.getElem?_append_left (show i < j.length by omega)]
      rw [e1, h1, show 8 * (n + 1 - 1 - i) = 8 + 8 * (n - 1 - i) by omega, Nat.pow_add, ← Nat.div_div_eq_div_mul]
      congr 2
      omega
    · have hie : i = n := by omega
      subst hie
      have e1 : (j ++ [x]).getD i 0 = x := by simp [List.getD, ← hj]
      rw [e1]
      simp
      omega

/-- A part of a byte is a part of the number. -/
theorem part_of_byte (X a s : Nat) (h : a + s ≤ 8) : X % 256 / 2 ^ a % 2 ^ s = X / 2 ^ a % 2 ^ s := by
  have e : (256 : Nat) = 2 ^ a * 2 ^ (8 - a) := by rw [← Nat.pow_add, show a + (8 - a) = 8 by omega]
  rw [e, Nat.mod_mul_right_div_self, Nat.mod_mod_of_dvd _ (Nat.pow_dvd_pow 2 (by omega))]

/-- Two neighbouring parts of a number are one. -/
theorem parts_join (X k s : Nat) : X / 2 ^ s % 2 ^ k * 2 ^ s + X % 2 ^ s = X % 2 ^ (k + s) := by
  rw [show k + s = s + k by omega, Nat.pow_add, Nat.mod_mul, Nat.mul_comm, Nat.add_comm]

theorem or_add (x y r : Nat) (hx : x % 2 ^ r = 0) (hy : y < 2 ^ r) : x ||| y = x + y := by
  have e : x = 2 ^ r * (x / 2 ^ r) := by have := Nat.div_add_mod x (2 ^ r); omega
  rw [e]
  exact (Nat.two_pow_add_eq_or_of_lt hy (x / 2 ^ r)).symm

/-- The state of a writer's bytes: c bits, that are the number N, and r bits 0 behind them. -/
def Pk (B : List Nat) (N c r : Nat) : Prop := (∀ b ∈ B, b < 256) ∧ 8 * B.length = c + r ∧ be B = N * 2 ^ r ∧ N < 2 ^ c

theorem pk_nil : Pk [] 0 0 0 := ⟨by simp, rfl, rfl, by decide⟩

theorem pk_room {B : List Nat} {N c : Nat} (h : Pk B N c 0) : Pk (B ++ [0]) N c 8 := by
  obtain ⟨h1, h2, h3, h4⟩ := h
  refine ⟨?_, by simp; omega, by rw [be_snoc, h3]; simp, h4⟩
  intro b hb
  rcases List.mem_append.1 hb with hb | hb
  · exact h1 b hb
  · simp at hb; omega

/-- The last byte, with s bits more in it. -/
theorem pk_step {i : List Nat} {x N c r s y : Nat} (h : Pk (i ++ [x]) N c r) (hr : r ≤ 8) (hs : s ≤ r) (hy : y < 2 ^ s) :
    x % 2 ^ r = 0 ∧ y * 2 ^ (r - s) < 2 ^ r ∧ Pk (i ++ [x + y * 2 ^ (r - s)]) (N * 2 ^ s + y) (c + s) (r - s) := by
  obtain ⟨h1, h2, h3, h4⟩ := h
  have hx := h1 x (by simp)
  have e8 : (256 : Nat) = 2 ^ r * 2 ^ (8 - r) := by rw [← Nat.pow_add, show r + (8 - r) = 8 by omega]
  have er : (2 : Nat) ^ r = 2 ^ s * 2 ^ (r - s) := by rw [← Nat.pow_add, show s + (r - s) = r by omega]
  have hx0 : x % 2 ^ r = 0 := by
    have h5 : (be i * 256 + x) % 2 ^ r = 0 := by rw [← be_snoc, h3]; exact Nat.mul_mod_left _ _
    rw [e8, show be i * (2 ^ r * 2 ^ (8 - r)) = 2 ^ r * (be i * 2 ^ (8 - r)) by rw [Nat.mul_left_comm], Nat.mul_add_mod] at h5
    exact h5
  have hlt : y * 2 ^ (r - s) < 2 ^ r := by rw [er]; exact Nat.mul_lt_mul_of_pos_right hy (Nat.two_pow_pos _)
  refine ⟨hx0, hlt, ?_, ?_, ?_, ?_⟩
  · intro b hb
    rcases List.mem_append.1 hb with hb | hb
    · exact h1 b (by simp [hb])
    · have hb' : b = x + y * 2 ^ (r - s) := by simpa using hb
      rw [hb', e8]
      obtain ⟨q, hq⟩ : ∃ q, x = 2 ^ r * q := ⟨x / 2 ^ r, by have := Nat.div_add_mod x (2 ^ r); omega⟩
      have hq1 : q < 2 ^ (8 - r) := by
        rw [hq, e8] at hx
        exact Nat.lt_of_mul_lt_mul_left hx
      calc x + y * 2 ^ (r - s) < 2 ^ r * q + 2 ^ r := by omega
        _ = 2 ^ r * (q + 1) := by rw [Nat.mul_add, Nat.mul_one]
        _ ≤ 2 ^ r * 2 ^ (8 - r) := Nat.mul_le_mul_left _ hq1
  · simp at h2 ⊢; omega
  · rw [be_snoc] at h3 ⊢
    rw [← Nat.add_assoc, h3, er, Nat.add_mul, Nat.mul_assoc]
  · rw [Nat.pow_add]
    calc N * 2 ^ s + y < N * 2 ^ s + 2 ^ s := by omega
      _ = (N + 1) * 2 ^ s := by rw [Nat.add_mul, Nat.one_mul]
      _ ≤ 2 ^ c * 2 ^ s := Nat.mul_le_mul_right _ h4

/-- What the loop of a put has laid so far, a piece more. -/
theorem put_more (N n j l s : Nat) (hs : s ≤ l) : (N * 2 ^ j + n / 2 ^ l % 2 ^ j) * 2 ^ s + n / 2 ^ (l - s) % 2 ^ s = N * 2 ^ (j + s) + n / 2 ^ (l - s) % 2 ^ (j + s) := by
  have e : n / 2 ^ l = n / 2 ^ (l - s) / 2 ^ s := by rw [Nat.div_div_eq_div_mul, ← Nat.pow_add, show l - s + s = l by omega]
  rw [e, Nat.add_mul, Nat.mul_assoc, ← Nat.pow_add, Nat.add_assoc, parts_join]

/-- What a reader's loop has taken so far, a piece more. T: all bits as a number; M: how many; a: from where; t: taken so far. -/
theorem take_more (T m j s : Nat) (hs : s ≤ m) : T / 2 ^ m % 2 ^ j * 2 ^ s + T / 2 ^ (m - s) % 2 ^ s = T / 2 ^ (m - s) % 2 ^ (j + s) := by
  have e : T / 2 ^ m = T / 2 ^ (m - s) / 2 ^ s := by rw [Nat.div_div_eq_div_mul, ← Nat.pow_add, show m - s + s = m by omega]
  rw [e, parts_join]

end Bx
end Go.Proofs.Ytlbnjclchmnomaa

namespace Go.Proofs.Ytlbnjclchmnomaa
open Go.RowKit

/-- A frame whose size is known, written out by its slots. -/
theorem fr_open {tm : Array Value} {n : Nat} (hs : tm.size = n) : ∃ f : Nat → Value, tm = ((List.range n).map f).toArray ∧ ∀ i v, tm[i]? = some v → f i = v := by
  refine ⟨fun i => tm.getD i undef, ?_, fun i v h => by simp [Array.getD_eq_getD_getElem?, h]⟩
  apply Array.ext
  · simp [hs]
  · intro i h1 h2
    simp [Array.getD_eq_getD_getElem?, h1]

/-- Of the blocks that were there only those in S may have turned. -/
structure Kept (S : Nat → Prop) (w w' : World) : Prop where
  os : w'.os = w.os
  tape : w'.tape = w.tape
  output : w'.output = w.output
  size : w.heap.size ≤ w'.heap.size
  block : ∀ k, k < w.heap.size → ¬ S k → w'.heap[k]? = w.heap[k]?

def Nix : Nat → Prop := fun _ => False
def Only (p : Nat) (v : Value) : Nat → Prop := fun k => k = p ∨ v.ownBlock = some k

theorem Kept.refl (S : Nat → Prop) (w : World) : Kept S w w := ⟨rfl, rfl, rfl, Nat.le_refl _, fun _ _ _ => rfl⟩

theorem Kept.trans {S S' T : Nat → Prop} {a b c : World} (h : Kept S a b) (k : Kept S' b c) (h1 : ∀ j, S j → T j) (h2 : ∀ j, j < a.heap.size → S' j → T j) : Kept T a c :=
  ⟨k.os.trans h.os, k.tape.trans h.tape, k.output.trans h.output, Nat.le_trans h.size k.size, fun i hi hn =>
    (k.block i (Nat.lt_of_lt_of_le hi h.size) (fun e => hn (h2 i hi e))).trans (h.block i hi (fun e => hn (h1 i e)))⟩

theorem Kept.mono {S T : Nat → Prop} {a b : World} (h : Kept S a b) (h1 : ∀ j, S j → T j) : Kept T a b :=
  ⟨h.os, h.tape, h.output, h.size, fun i hi hn => h.block i hi (fun e => hn (h1 i e))⟩

theorem Kept.drew {S : Nat → Prop} {a w : World} (h : Kept S a w) : Kept S a w.drew := ⟨h.os, h.tape, h.output, h.size, h.block⟩

theorem Kept.drewN {S : Nat → Prop} {a w : World} (h : Kept S a w) (n : Nat) : Kept S a (w.drewN n) := ⟨h.os, h.tape, h.output, h.size, h.block⟩

theorem Kept.alloc {S : Nat → Prop} {a w : World} (h : Kept S a w) (o : Obj) : Kept S a (w.alloc o) :=
  h.trans (S' := Nix) ⟨rfl, rfl, rfl, by simp, fun k hk _ => Below.heap_alloc _ _ _ hk⟩ (fun _ h => h) (fun _ _ h => absurd h id)

theorem Kept.setCell {S : Nat → Prop} {a w : World} (h : Kept S a w) {p : Addr} (hp : S p.block ∨ a.heap.size ≤ p.block) (u : Value) : Kept S a (w.setCell p u) :=
  h.trans (S' := fun k => k = p.block) ⟨rfl, rfl, rfl, by simp [World.setCell], fun k _ hk => Below.heap_setCell _ _ _ _ hk⟩ (fun _ h => h)
    (fun j hj e => by rcases hp with hp | hp
                      · rw [e]; exact hp
                      · omega)

theorem Kept.grown {S : Nat → Prop} {a w w' : World} {row : Option Nat} (h : Kept S a w) (hg : w.grownBy w' row) (hr : ∀ k, row = some k → S k ∨ a.heap.size ≤ k) : Kept S a w' :=
  h.trans (S' := fun k => row = some k) ⟨hg.os, hg.tape, hg.output, hg.size, fun k hk hn => hg.block k hk (fun e => hn e.symm)⟩ (fun _ h => h)
    (fun j hj e => by rcases hr j e with hp | hp
                      · exact hp
                      · omega)

theorem Kept.below {S : Nat → Prop} {w w' : World} (h : Kept S w w') {B : Nat} (hB : B ≤ w.heap.size) (hS : ∀ k, S k → B ≤ k) : Below B w w' :=
  ⟨h.os, h.tape, h.output, h.size, fun k hk => h.block k (by omega) (fun e => by have := hS k e; omega)⟩

theorem Kept.heap {S : Nat → Prop} {w w' : World} (h : Kept S w w') {k : Nat} {o : Obj} (hk : w.heap[k]? = some o) (hn : ¬ S k) : w'.heap[k]? = some o :=
  (h.block k (Array.getElem?_eq_some_iff.1 hk).1 hn).trans hk

/-- What is owned stays owned where its block is none of those that may have turned. -/
theorem Kept.owns {S : Nat → Prop} {w w' : World} (h : Kept S w w') {base : Nat} {e : TypeId} {size : Nat} {v : Value} {n : Nat} {xs : List Value} (ho : w.ownsRow base e size v n xs)
    (hn : ∀ k, v.ownBlock = some k → ¬ S k) : w'.ownsRow base e size v n xs := by
  refine ⟨ho.1, ?_⟩
  rcases ho.2 with hh | ⟨g, cap, cur, rfl, hb, hg, rest⟩
  · exact .inl hh
  · exact .inr ⟨g, cap, cur, rfl, hb, h.heap hg (hn g rfl), rest⟩

theorem lt_of_heap {w : World} {k : Nat} {o : Obj} (hk : w.heap[k]? = some o) : k < w.heap.size := (Array.getElem?_eq_some_iff.1 hk).1

theorem cell_of {w : World} {p i : Nat} {cs : Array Value} {t : TypeId} {fz : Nat × Nat} (h : w.heap[p]? = some (.cells cs t fz)) : w.cell? ⟨p, i, none⟩ = cs[i]? := by
  simp [World.cell?, h]

theorem frozen_of {w : World} {p i : Nat} {cs : Array Value} {t : TypeId} (h : w.heap[p]? = some (.cells cs t (0, 0))) : w.frozen? ⟨p, i, none⟩ = false := by
  simp [World.frozen?, h]

theorem heap_set {w : World} {p i : Nat} {cs : Array Value} {t : TypeId} {fz : Nat × Nat} {u : Value} (h : w.heap[p]? = some (.cells cs t fz)) :
    (w.setCell ⟨p, i, none⟩ u).heap[p]? = some (.cells (cs.setIfInBounds i u) t fz) := by
  simp [World.setCell, Array.getElem?_modify, h]

theorem heap_set_other {w : World} {k : Nat} {p : Addr} {u : Value} (h : k ≠ p.block) : (w.setCell p u).heap[k]? = w.heap[k]? := Below.heap_setCell w p u k h

/-- A value that is owned, by its shape. -/
theorem owns_pos {w : World} {base : Nat} {e : TypeId} {size : Nat} {v : Value} {n : Nat} {xs : List Value} (ho : w.ownsRow base e size v n xs) (hn : 0 < n) :
    ∃ g cap, v = .slice (some ⟨g, 0, none⟩) n cap ∧ n ≤ cap ∧ cap ≤ maxLen ∧ base ≤ g ∧ g < w.heap.size := by
  rcases ho.2 with ⟨_, h⟩ | ⟨g, cap, cur, rfl, hb, hg, h1, h2, _⟩
  · omega
  · exact ⟨g, cap, rfl, h1, h2, hb, lt_of_heap hg⟩

theorem owns_shape {w : World} {base : Nat} {e : TypeId} {size : Nat} {v : Value} {n : Nat} {xs : List Value} (ho : w.ownsRow base e size v n xs) :
    ∃ ao cap, v = .slice ao n cap ∧ n ≤ cap ∧ cap ≤ maxLen := by
  rcases ho.2 with ⟨rfl, rfl⟩ | ⟨g, cap, cur, rfl, hb, hg, h1, h2, _⟩
  · exact ⟨none, 0, rfl, Nat.le_refl _, by simp [maxLen]⟩
  · exact ⟨_, cap, rfl, h1, h2⟩

theorem own_lt {w : World} {base : Nat} {e : TypeId} {size : Nat} {v : Value} {n : Nat} {xs : List Value} (ho : w.ownsRow base e size v n xs) {k : Nat} (hk : v.ownBlock = some k) : base ≤ k ∧ k < w.heap.size := ho.lt k hk

def u8s (B : List Nat) : List Value := B.map fun b : Nat => Value.int .u8 (b : Int)
theorem u8s_length (B : List Nat) : (u8s B).length = B.length := by simp [u8s]
theorem u8s_get (B : List Nat) (i : Nat) (h : i < B.length) : (u8s B)[i]? = some (.int .u8 ((B.getD i 0 : Nat) : Int)) := by simp [u8s, h]
theorem u8s_append (A B : List Nat) : u8s (A ++ B) = u8s A ++ u8s B := by simp [u8s]
theorem u8s_one (B : List Nat) : ∀ u ∈ u8s B, u.oneCell' = true := by
  intro u hu
  obtain ⟨_, _, rfl⟩ := List.mem_map.1 hu
  rfl
theorem u8s_inj {A B : List Nat} (h : u8s A = u8s B) : A = B := by
  induction A generalizing B with
  | nil => cases B with
    | nil => rfl
    | cons b B => simp [u8s] at h
  | cons a A ih => cases B with
    | nil => simp [u8s] at h
    | cons b B =>
      simp only [u8s, List.map_cons, List.cons.injEq, Value.int.injEq, true_and] at h
      rw [ih h.2, show a = b by omega]

/-- The scope in a function's body, if it is its last statement. -/
def theScope : Code → Code
  | .scope b => b
  | .seq _ c => theScope c
  | _ => .skip

/-- What stands behind a label, in a function's body that ends in a scope. -/
def behindLabel (c : Code) (l : Nat) : Code :=
  match findLabel (theScope c) l with
  | some (.seq _ r) => r
  | _ => .skip

end Go.Proofs.Ytlbnjclchmnomaa

namespace Go.Proofs.Ytlbnjclchmnomaa
open Go.RowKit

/-- What is appended: a slice's address, that may be none, m cells of the size. -/
def SrcIs (w : World) (size : Nat) (ao : Option Addr) (m c : Nat) (news : List Value) : Prop :=
  news.length = m * size ∧ (ao = none → m = 0 ∧ c = 0) ∧ (∀ ad, ao = some ad → ∀ j u, news[j]? = some u → w.cell? (ad.add j) = some u) ∧ ∀ u ∈ news, u.oneCell' = true

section
variable {P : Program} (w : World)

theorem run_app (base : Nat) (t ty e : TypeId) (z : Value) (size bytes : Nat) (ht : P.underlying t = some (.slice e)) (hinf : (P.info? e).map (fun i => (i.zero, i.size, i.bytes)) = some (some z, size, bytes))
    (hzs : z.cells.size = size) (hsz : 0 < size)
    (v : Value) (n : Nat) (xs : List Value) (hown : w.ownsRow base e size v n xs)
    (ao : Option Addr) (m c : Nat) (news : List Value) (hsrc : SrcIs w size ao m c news)
    (h63 : n + m ≤ maxLen) (hbytes : (n + m) * bytes ≤ 140737488355328) (hbase : base ≤ w.heap.size) :
    ∃ v' w', (Builtin.append_ #[t, t] ty #[v, .slice ao m c]).run P w = .ok v' w' ∧ w'.ownsRow base e size v' (n + m) (xs ++ news) ∧ w.grownBy w' v.ownBlock ∧
      (v'.ownBlock = v.ownBlock ∨ v'.ownBlock = some w.heap.size) := by
  obtain ⟨i, hi, hz, hsize, hby⟩ := info_parts hinf
  obtain ⟨hl, hno, hnews, h1⟩ := hsrc
  cases ao with
  | none =>
    obtain ⟨rfl, rfl⟩ := hno rfl
    have hn : news = [] := List.eq_nil_of_length_eq_zero (by simpa using hl)
    subst hn
    exact ⟨v, w, run_append_owned_none w base t ty e i size ht hi v n xs hown, by simpa using hown, World.grownBy.refl _ _, .inl rfl⟩
  | some a =>
    have hnews := hnews a rfl
    obtain ⟨v', w', hr, h2, h3, h4⟩ := run_append_own (P := P) w base t ty e i z size bytes ht hi hz hsize hby hzs hsz v n xs hown a m c news hl hnews h1 h63 hbytes hbase
    refine ⟨v', w', hr, h2, h3, ?_⟩
    subst hsize
    subst hby
    rcases hown.2 with ⟨rfl, rfl⟩ | ⟨g, cap, cur, rfl, hbg, hg, hnc, hcm, hcs, htake⟩
    · by_cases hm : m = 0
      · subst hm
        have := h4.2 ⟨rfl, rfl⟩
        rw [this]; exact .inl rfl
      · have hr' := run_append_nil (P := P) w t ty e i z ht hi hz a m c news hl hnews (by omega) (by unfold maxLen at h63; omega) (by have hb := hbytes; simp only [Nat.zero_add] at hb; omega)
        rw [hr'] at hr
        injection hr with hr _
        rw [← hr]; exact .inr rfl
    · by_cases hroom : n + m ≤ cap
      · have hfit : n * i.size + news.length ≤ cur.size := by rw [hl, hcs, ← Nat.add_mul]; exact Nat.mul_le_mul_right _ hroom
        have hr' := run_append_room (P := P) w t ty e i ht hi g n cap cur hg a m c news hl hnews h1 hroom hfit
        rw [hr'] at hr
        injection hr with hr _
        rw [← hr]; exact .inl rfl
      · have holds : ∀ j u, xs[j]? = some u → w.cell? ((⟨g, 0, none⟩ : Addr).add j) = some u := hown.cells (g := g) rfl
        have hr' := run_append_grow (P := P) w t ty e i z ht hi hz ⟨g, 0, none⟩ n cap xs hown.1 holds a m c news hl hnews (by omega) (by unfold maxLen at h63; omega) (growslice_fits (by omega) hbytes)
        rw [hr'] at hr
        injection hr with hr _
        rw [← hr]; exact .inr rfl

theorem wpList_app {ops : Array Oper} {rest : List Oper} {o : Oper} {a : Act} {Q : Exit → Act → World → Prop} (hgd : o.guard = none) (s x : Operand) (t : TypeId)
    (ho : o.op = .call { callee := .builtin .append, args := #[s, x], argTypes := #[t, t] })
    (base : Nat) (e : TypeId) (z : Value) (size bytes : Nat) (ht : P.underlying t = some (.slice e)) (hinf : (P.info? e).map (fun i => (i.zero, i.size, i.bytes)) = some (some z, size, bytes))
    (hzs : z.cells.size = size) (hsz : 0 < size)
    (v : Value) (n : Nat) (xs : List Value) (hs : a.eval s = v) (hown : w.ownsRow base e size v n xs)
    (ao : Option Addr) (m c : Nat) (news : List Value) (hx : a.eval x = .slice ao m c) (hsrc : SrcIs w size ao m c news)
    (h63 : n + m ≤ maxLen) (hbytes : (n + m) * bytes ≤ 140737488355328) (hbase : base ≤ w.heap.size)
    (h : ∀ v' w', w'.ownsRow base e size v' (n + m) (xs ++ news) → w.grownBy w' v.ownBlock → (v'.ownBlock = v.ownBlock ∨ v'.ownBlock = some w.heap.size) → wpList P ops Q rest (a.put o.dst v') w') : wpList P ops Q (o :: rest) a w := by
  refine wpList_plain hgd fun K hK => ?_
  obtain ⟨v', w', hr, h2, h3, h4⟩ := run_app (P := P) w base t o.type e z size bytes ht hinf hzs hsz v n xs hown ao m c news hsrc h63 hbytes hbase
  unfold Oper.wp execOp
  simp only [ho, resolve, invoke, builtin, Sem.run_bind, Sem.run_pure, Result.andThen_ok, List.map_toArray, List.map_cons, List.map_nil, hs, hx, hr]
  exact hK _ _ (h v' w' h2 h3 h4)
end

/-- One new cell at a new block. -/
theorem src_one (w : World) (x : Value) (t : TypeId) (h1 : x.oneCell' = true) : SrcIs (w.alloc (.cells #[x] t)) 1 (some ⟨w.heap.size, 0, none⟩) 1 1 [x] := by
  refine ⟨rfl, fun h => by simp at h, ?_, by simpa using h1⟩
  rintro ad h j u hu
  obtain rfl := Option.some.inj h
  match j, hu with
  | 0, hu =>
    simp at hu
    subst hu
    simp [Addr.add]

end Go.Proofs.Ytlbnjclchmnomaa
