/- Plain facts on bytes and numbers: a row of bytes as one number, the highest byte first; parts of a number by powers of two. No Go text, no program. Worlds and frames: what a call keeps of the memory that was there; a frame of which only some slots are known. The builtin append onto a slice that the call owns, from a source of whatever make: where the new value lies is told, too. What is kept apart in memory; slices as lists of cells, wherever they lie. No program. What every text on this program imports; two facts for all of them. Contracts of package rice: folded numbers, sizes. Sounds in numbers: depths, kinds, samples as bytes. No program. How many bits a part has, its width, its best way: all in numbers. No program. -/
import Derived.WalkKit
import Derived.Below
import Derived.Lib.Hide
import Derived.Deep.Draws
import Derived.Test.YtliggpidkdiinaaChecked
import Derived.WalkLawsBesides
import Derived.WalkSpells
import Derived.PlainAid
import Derived.WalkMore
import Derived.ScopeJumps
import Derived.StillTailTactics
import Derived.Deep.QuietTactic
import Derived.BigQuiet
import Derived.Outline
import Derived.Deep.Cut
import Derived.Lib.Zigzag
import Derived.OpenShut
import Derived.RowKit

namespace Go.Proofs.Ytliggpidkdiinaa
namespace Bx

/-- A row of bytes as one number. -/
def be (l : List Nat) : Nat := l.foldl (fun a b => a * 256 + b) 0

theorem be_nil : be [] = 0 := rfl
theorem be_snoc (l : List Nat) (b : Nat) : be (l ++ [b]) = be l * 256 + b := by simp [be, List.foldl_append]

theorem snoc_cases {α : Type} (l : List α) : l = [] ∨ ∃ i x, l = i ++ [x] := by
  cases h : l.reverse with
  | nil => exact .inl (by simpa using h)
  | cons x i => exact .inr ⟨i.reverse, x, by rw [← List.reverse_reverse l, h]; simp⟩

theorem snoc_of_pos {α : Type} (l : List α) (h : 0 < l.length) : ∃ i x, l = i ++ [x] := by
  rcases snoc_cases l with rfl | h'
  · simp at h
  · exact h'

theorem be_lt : ∀ (n : Nat) (l : List Nat), l.length = n → (∀ b ∈ l, b < 256) → be l < 2 ^ (8 * n) := by
  intro n
  induction n with
  | zero => intro l hl _; have : l = [] := List.eq_nil_of_length_eq_zero hl; subst this; simp [be]
  | succ n ih =>
    intro l hl hb
    obtain ⟨i, x, rfl⟩ := snoc_of_pos l (by omega)
    have h1 := ih i (by simpa using hl) (fun b h => hb b (by simp [h]))
    have h2 := hb x (by simp)
    rw [be_snoc, show 8 * (n + 1) = 8 * n + 8 by omega, Nat.pow_add]
    omega

theorem be_inj : ∀ (n : Nat) (l m : List Nat), l.length = n → m.length = n → (∀ b ∈ l, b < 256) → (∀ b ∈ m, b < 256) → be l = be m → l = m := by
  intro n
  induction n with
  | zero => intro l m hl hm _ _ _; rw [List.eq_nil_of_length_eq_zero hl, List.eq_nil_of_length_eq_zero hm]
  | succ n ih =>
    intro l m hl hm hb hc he
    obtain ⟨i, x, rfl⟩ := snoc_of_pos l (by omega)
    obtain ⟨j, y, rfl⟩ := snoc_of_pos m (by omega)
    have hx := hb x (by simp)
    have hy := hc y (by simp)
    rw [be_snoc, be_snoc] at he
    have h1 : be i = be j := by omega
    have h2 : x = y := by omega
    rw [ih i j (by simpa using hl) (by simpa using hm) (fun b h => hb b (by simp [h])) (fun b h => hc b (by simp [h])) h1, h2]

/-- Byte number i of a row, out of its number. -/
theorem be_get : ∀ (n : Nat) (l : List Nat) (i : Nat), l.length = n → (∀ b ∈ l, b < 256) → i < n → l.getD i 0 = be l / 2 ^ (8 * (n - 1 - i)) % 256 := by
  intro n
  induction n with
  | zero => intro l i _ _ h; omega
  | succ n ih =>
    intro l i hl hb hi
    obtain ⟨j, x, rfl⟩ := snoc_of_pos l (by omega)
    have hj : j.length = n := by simpa using hl
    have hx := hb x (by simp)
    rw [be_snoc]
    by_cases hin : i < n
    · have h1 := ih j i hj (fun b h => hb b (by simp [h])) hin
      have e1 : (j ++ [x]).getD i 0 = j.getD i 0 := by simp [List.getD, List.getElem?_append_left (show i < j.length by omega)]
      rw [e1, h1, show 8 * (n + 1 - 1 - i) = 8 + 8 * (n - 1 - i) by omega, Nat.pow_add, ← Nat.div_div_eq_div_mul]
      congr 2
      omega
    · have hie : i = n := by omega
      subst hie
      have e1 : (j ++ [x]).getD i 0 = x := by simp [List.getD, ← hj]
      rw [e1]
      simp
      omega

/-- A part of a byte is a part of the number. -/
theorem part_of_byte (X a s : Nat) (h : a + s ≤ 8) : X % 256 / 2 ^ a % 2 ^ s = X / 2 ^ a % 2 ^ s := by
  have e : (256 : Nat) = 2 ^ a * 2 ^ (8 - a) := by rw [← Nat.pow_add, show a + (8 - a) = 8 by omega]
  rw [e, Nat.mod_mul_right_div_self, Nat.mod_mod_of_dvd _ (Nat.pow_dvd_pow 2 (by omega))]

/-- Two neighbouring parts of a number are one. -/
theorem parts_join (X k s : Nat) : X / 2 ^ s % 2 ^ k * 2 ^ s + X % 2 ^ s = X % 2 ^ (k + s) := by
  rw [show k + s = s + k by omega, Nat.pow_add, Nat.mod_mul, Nat.mul_comm, Nat.add_comm]

theorem or_add (x y r : Nat) (hx : x % 2 ^ r = 0) (hy : y < 2 ^ r) : x ||| y = x + y := by
  have e : x = 2 ^ r * (x / 2 ^ r) := by have := Nat.div_add_mod x (2 ^ r); omega
  rw [e]
  exact (Nat.two_pow_add_eq_or_of_lt hy (x / 2 ^ r)).symm

/-- The state of a writer's bytes: c bits, that are the number N, and r bits 0 behind them. -/
def Pk (B : List Nat) (N c r : Nat) : Prop := (∀ b ∈ B, b < 256) ∧ 8 * B.length = c + r ∧ be B = N * 2 ^ r ∧ N < 2 ^ c

theorem pk_nil : Pk [] 0 0 0 := ⟨by simp, rfl, rfl, by decide⟩

theorem pk_room {B : List Nat} {N c : Nat} (h : Pk B N c 0) : Pk (B ++ [0]) N c 8 := by
  obtain ⟨h1, h2, h3, h4⟩ := h
  refine ⟨?_, by simp; omega, by rw [be_snoc, h3]; simp, h4⟩
  intro b hb
  rcases List.mem_append.1 hb with hb | hb
  · exact h1 b hb
  · simp at hb; omega

/-- The last byte, with s bits more in it. -/
theorem pk_step {i : List Nat} {x N c r s y : Nat} (h : Pk (i ++ [x]) N c r) (hr : r ≤ 8) (hs : s ≤ r) (hy : y < 2 ^ s) :
    x % 2 ^ r = 0 ∧ y * 2 ^ (r - s) < 2 ^ r ∧ Pk (i ++ [x + y * 2 ^ (r - s)]) (N * 2 ^ s + y) (c + s) (r - s) := by
  obtain ⟨h1, h2, h3, h4⟩ := h
  have hx := h1 x (by simp)
  have e8 : (256 : Nat) = 2 ^ r * 2 ^ (8 - r) := by rw [← Nat.pow_add, show r + (8 - r) = 8 by omega]
  have er : (2 : Nat) ^ r = 2 ^ s * 2 ^ (r - s) := by rw [← Nat.pow_add, show s + (r - s) = r by omega]
  have hx0 : x % 2 ^ r = 0 := by
    have h5 : (be i * 256 + x) % 2 ^ r = 0 := by rw [← be_snoc, h3]; exact Nat.mul_mod_left _ _
    rw [e8, show be i * (2 ^ r * 2 ^ (8 - r)) = 2 ^ r * (be i * 2 ^ (8 - r)) by rw [Nat.mul_left_comm], Nat.mul_add_mod] at h5
    exact h5
  have hlt : y * 2 ^ (r - s) < 2 ^ r := by rw [er]; exact Nat.mul_lt_mul_of_pos_right hy (Nat.two_pow_pos _)
  refine ⟨hx0, hlt, ?_, ?_, ?_, ?_⟩
  · intro b hb
    rcases List.mem_append.1 hb with hb | hb
    · exact h1 b (by simp [hb])
    · have hb' : b = x + y * 2 ^ (r - s) := by simpa using hb
      rw [hb', e8]
      obtain ⟨q, hq⟩ : ∃ q, x = 2 ^ r * q := ⟨x / 2 ^ r, by have := Nat.div_add_mod x (2 ^ r); omega⟩
      have hq1 : q < 2 ^ (8 - r) := by
        rw [hq, e8] at hx
        exact Nat.lt_of_mul_lt_mul_left hx
      calc x + y * 2 ^ (r - s) < 2 ^ r * q + 2 ^ r := by omega
        _ = 2 ^ r * (q + 1) := by rw [Nat.mul_add, Nat.mul_one]
        _ ≤ 2 ^ r * 2 ^ (8 - r) := Nat.mul_le_mul_left _ hq1
  · simp at h2 ⊢; omega
  · rw [be_snoc] at h3 ⊢
    rw [← Nat.add_assoc, h3, er, Nat.add_mul, Nat.mul_assoc]
  · rw [Nat.pow_add]
    calc N * 2 ^ s + y < N * 2 ^ s + 2 ^ s := by omega
      _ = (N + 1) * 2 ^ s := by rw [Nat.add_mul, Nat.one_mul]
      _ ≤ 2 ^ c * 2 ^ s := Nat.mul_le_mul_right _ h4

/-- What the loop of a put has laid so far, a piece more. -/
theorem put_more (N n j l s : Nat) (hs : s ≤ l) : (N * 2 ^ j + n / 2 ^ l % 2 ^ j) * 2 ^ s + n / 2 ^ (l - s) % 2 ^ s = N * 2 ^ (j + s) + n / 2 ^ (l - s) % 2 ^ (j + s) := by
  have e : n / 2 ^ l = n / 2 ^ (l - s) / 2 ^ s := by rw [Nat.div_div_eq_div_mul, ← Nat.pow_add, show l - s + s = l by omega]
  rw [e, Nat.add_mul, Nat.mul_assoc, ← Nat.pow_add, Nat.add_assoc, parts_join]

/-- What a reader's loop has taken so far, a piece more. T: all bits as a number; M: how many; a: from where; t: taken so far. -/
theorem take_more (T m j s : Nat) (hs : s ≤ m) : T / 2 ^ m % 2 ^ j * 2 ^ s + T / 2 ^ (m - s) % 2 ^ s = T / 2 ^ (m - s) % 2 ^ (j + s) := by
  have e : T / 2 ^ m = T / 2 ^ (m - s) / 2 ^ s := by rw [Nat.div_div_eq_div_mul, ← Nat.pow_add, show m - s + s = m by omega]
  rw [e, parts_join]

end Bx
end Go.Proofs.Ytliggpidkdiinaa

namespace Go.Proofs.Ytliggpidkdiinaa
open Go.RowKit

/-- A frame whose size is known, written out by its slots. -/
theorem fr_open {tm : Array Value} {n : Nat} (hs : tm.size = n) : ∃ f : Nat → Value, tm = ((List.range n).map f).toArray ∧ ∀ i v, tm[i]? = some v → f i = v := by
  refine ⟨fun i => tm.getD i undef, ?_, fun i v h => by simp [Array.getD_eq_getD_getElem?, h]⟩
  apply Array.ext
  · simp [hs]
  · intro i h1 h2
    simp [Array.getD_eq_getD_getElem?, h1]

/-- Of the blocks that were there only those in S may have turned. -/
structure Kept (S : Nat → Prop) (w w' : World) : Prop where
  os : w'.os = w.os
  tape : w'.tape = w.tape
  output : w'.output = w.output
  size : w.heap.size ≤ w'.heap.size
  block : ∀ k, k < w.heap.size → ¬ S k → w'.heap[k]? = w.heap[k]?

def Nix : Nat → Prop := fun _ => False
def Only (p : Nat) (v : Value) : Nat → Prop := fun k => k = p ∨ v.ownBlock = some k

theorem Kept.refl (S : Nat → Prop) (w : World) : Kept S w w := ⟨rfl, rfl, rfl, Nat.le_refl _, fun _ _ _ => rfl⟩

theorem Kept.trans {S S' T : Nat → Prop} {a b c : World} (h : Kept S a b) (k : Kept S' b c) (h1 : ∀ j, S j → T j) (h2 : ∀ j, j < a.heap.size → S' j → T j) : Kept T a c :=
  ⟨k.os.trans h.os, k.tape.trans h.tape, k.output.trans h.output, Nat.le_trans h.size k.size, fun i hi hn =>
    (k.block i (Nat.lt_of_lt_of_le hi h.size) (fun e => hn (h2 i hi e))).trans (h.block i hi (fun e => hn (h1 i e)))⟩

theorem Kept.mono {S T : Nat → Prop} {a b : World} (h : Kept S a b) (h1 : ∀ j, S j → T j) : Kept T a b :=
  ⟨h.os, h.tape, h.output, h.size, fun i hi hn => h.block i hi (fun e => hn (h1 i e))⟩

theorem Kept.drew {S : Nat → Prop} {a w : World} (h : Kept S a w) : Kept S a w.drew := ⟨h.os, h.tape, h.output, h.size, h.block⟩

theorem Kept.drewN {S : Nat → Prop} {a w : World} (h : Kept S a w) (n : Nat) : Kept S a (w.drewN n) := ⟨h.os, h.tape, h.output, h.size, h.block⟩

theorem Kept.alloc {S : Nat → Prop} {a w : World} (h : Kept S a w) (o : Obj) : Kept S a (w.alloc o) :=
  h.trans (S' := Nix) ⟨rfl, rfl, rfl, by simp, fun k hk _ => Below.heap_alloc _ _ _ hk⟩ (fun _ h => h) (fun _ _ h => absurd h id)

theorem Kept.setCell {S : Nat → Prop} {a w : World} (h : Kept S a w) {p : Addr} (hp : S p.block ∨ a.heap.size ≤ p.block) (u : Value) : Kept S a (w.setCell p u) :=
  h.trans (S' := fun k => k = p.block) ⟨rfl, rfl, rfl, by simp [World.setCell], fun k _ hk => Below.heap_setCell _ _ _ _ hk⟩ (fun _ h => h)
    (fun j hj e => by rcases hp with hp | hp
                      · rw [e]; exact hp
                      · omega)

theorem Kept.grown {S : Nat → Prop} {a w w' : World} {row : Option Nat} (h : Kept S a w) (hg : w.grownBy w' row) (hr : ∀ k, row = some k → S k ∨ a.heap.size ≤ k) : Kept S a w' :=
  h.trans (S' := fun k => row = some k) ⟨hg.os, hg.tape, hg.output, hg.size, fun k hk hn => hg.block k hk (fun e => hn e.symm)⟩ (fun _ h => h)
    (fun j hj e => by rcases hr j e with hp | hp
                      · exact hp
                      · omega)

theorem Kept.below {S : Nat → Prop} {w w' : World} (h : Kept S w w') {B : Nat} (hB : B ≤ w.heap.size) (hS : ∀ k, S k → B ≤ k) : Below B w w' :=
  ⟨h.os, h.tape, h.output, h.size, fun k hk => h.block k (by omega) (fun e => by have := hS k e; omega)⟩

theorem Kept.heap {S : Nat → Prop} {w w' : World} (h : Kept S w w') {k : Nat} {o : Obj} (hk : w.heap[k]? = some o) (hn : ¬ S k) : w'.heap[k]? = some o :=
  (h.block k (Array.getElem?_eq_some_iff.1 hk).1 hn).trans hk

/-- What is owned stays owned where its block is none of those that may have turned. -/
theorem Kept.owns {S : Nat → Prop} {w w' : World} (h : Kept S w w') {base : Nat} {e : TypeId} {size : Nat} {v : Value} {n : Nat} {xs : List Value} (ho : w.ownsRow base e size v n xs)
    (hn : ∀ k, v.ownBlock = some k → ¬ S k) : w'.ownsRow base e size v n xs := by
  refine ⟨ho.1, ?_⟩
  rcases ho.2 with hh | ⟨g, cap, cur, rfl, hb, hg, rest⟩
  · exact .inl hh
  · exact .inr ⟨g, cap, cur, rfl, hb, h.heap hg (hn g rfl), rest⟩

theorem lt_of_heap {w : World} {k : Nat} {o : Obj} (hk : w.heap[k]? = some o) : k < w.heap.size := (Array.getElem?_eq_some_iff.1 hk).1

theorem cell_of {w : World} {p i : Nat} {cs : Array Value} {t : TypeId} {fz : Nat × Nat} (h : w.heap[p]? = some (.cells cs t fz)) : w.cell? ⟨p, i, none⟩ = cs[i]? := by
  simp [World.cell?, h]

theorem frozen_of {w : World} {p i : Nat} {cs : Array Value} {t : TypeId} (h : w.heap[p]? = some (.cells cs t (0, 0))) : w.frozen? ⟨p, i, none⟩ = false := by
  simp [World.frozen?, h]

theorem heap_set {w : World} {p i : Nat} {cs : Array Value} {t : TypeId} {fz : Nat × Nat} {u : Value} (h : w.heap[p]? = some (.cells cs t fz)) :
    (w.setCell ⟨p, i, none⟩ u).heap[p]? = some (.cells (cs.setIfInBounds i u) t fz) := by
  simp [World.setCell, Array.getElem?_modify, h]

theorem heap_set_other {w : World} {k : Nat} {p : Addr} {u : Value} (h : k ≠ p.block) : (w.setCell p u).heap[k]? = w.heap[k]? := Below.heap_setCell w p u k h

/-- A value that is owned, by its shape. -/
theorem owns_pos {w : World} {base : Nat} {e : TypeId} {size : Nat} {v : Value} {n : Nat} {xs : List Value} (ho : w.ownsRow base e size v n xs) (hn : 0 < n) :
    ∃ g cap, v = .slice (some ⟨g, 0, none⟩) n cap ∧ n ≤ cap ∧ cap ≤ maxLen ∧ base ≤ g ∧ g < w.heap.size := by
  rcases ho.2 with ⟨_, h⟩ | ⟨g, cap, cur, rfl, hb, hg, h1, h2, _⟩
  · omega
  · exact ⟨g, cap, rfl, h1, h2, hb, lt_of_heap hg⟩

theorem owns_shape {w : World} {base : Nat} {e : TypeId} {size : Nat} {v : Value} {n : Nat} {xs : List Value} (ho : w.ownsRow base e size v n xs) :
    ∃ ao cap, v = .slice ao n cap ∧ n ≤ cap ∧ cap ≤ maxLen := by
  rcases ho.2 with ⟨rfl, rfl⟩ | ⟨g, cap, cur, rfl, hb, hg, h1, h2, _⟩
  · exact ⟨none, 0, rfl, Nat.le_refl _, by simp [maxLen]⟩
  · exact ⟨_, cap, rfl, h1, h2⟩

theorem own_lt {w : World} {base : Nat} {e : TypeId} {size : Nat} {v : Value} {n : Nat} {xs : List Value} (ho : w.ownsRow base e size v n xs) {k : Nat} (hk : v.ownBlock = some k) : base ≤ k ∧ k < w.heap.size := ho.lt k hk

def u8s (B : List Nat) : List Value := B.map fun b : Nat => Value.int .u8 (b : Int)
theorem u8s_length (B : List Nat) : (u8s B).length = B.length := by simp [u8s]
theorem u8s_get (B : List Nat) (i : Nat) (h : i < B.length) : (u8s B)[i]? = some (.int .u8 ((B.getD i 0 : Nat) : Int)) := by simp [u8s, h]
theorem u8s_append (A B : List Nat) : u8s (A ++ B) = u8s A ++ u8s B := by simp [u8s]
theorem u8s_one (B : List Nat) : ∀ u ∈ u8s B, u.oneCell' = true := by
  intro u hu
  obtain ⟨_, _, rfl⟩ := List.mem_map.1 hu
  rfl
theorem u8s_inj {A B : List Nat} (h : u8s A = u8s B) : A = B := by
  induction A generalizing B with
  | nil => cases B with
    | nil => rfl
    | cons b B => simp [u8s] at h
  | cons a A ih => cases B with
    | nil => simp [u8s] at h
    | cons b B =>
      simp only [u8s, List.map_cons, List.cons.injEq, Value.int.injEq, true_and] at h
      rw [ih h.2, show a = b by omega]

/-- The scope in a function's body, if it is its last statement. -/
def theScope : Code → Code
  | .scope b => b
  | .seq _ c => theScope c
  | _ => .skip

/-- What stands behind a label, in a function's body that ends in a scope. -/
def behindLabel (c : Code) (l : Nat) : Code :=
  match findLabel (theScope c) l with
  | some (.seq _ r) => r
  | _ => .skip

end Go.Proofs.Ytliggpidkdiinaa

namespace Go.Proofs.Ytliggpidkdiinaa
open Go.RowKit

/-- What is appended: a slice's address, that may be none, m cells of the size. -/
def SrcIs (w : World) (size : Nat) (ao : Option Addr) (m c : Nat) (news : List Value) : Prop :=
  news.length = m * size ∧ (ao = none → m = 0 ∧ c = 0) ∧ (∀ ad, ao = some ad → ∀ j u, news[j]? = some u → w.cell? (ad.add j) = some u) ∧ ∀ u ∈ news, u.oneCell' = true

section
variable {P : Program} (w : World)

theorem run_app (base : Nat) (t ty e : TypeId) (z : Value) (size bytes : Nat) (ht : P.underlying t = some (.slice e)) (hinf : (P.info? e).map (fun i => (i.zero, i.size, i.bytes)) = some (some z, size, bytes))
    (hzs : z.cells.size = size) (hsz : 0 < size)
    (v : Value) (n : Nat) (xs : List Value) (hown : w.ownsRow base e size v n xs)
    (ao : Option Addr) (m c : Nat) (news : List Value) (hsrc : SrcIs w size ao m c news)
    (h63 : n + m ≤ maxLen) (hbytes : (n + m) * bytes ≤ 140737488355328) (hbase : base ≤ w.heap.size) :
    ∃ v' w', (Builtin.append_ #[t, t] ty #[v, .slice ao m c]).run P w = .ok v' w' ∧ w'.ownsRow base e size v' (n + m) (xs ++ news) ∧ w.grownBy w' v.ownBlock ∧
      (v'.ownBlock = v.ownBlock ∨ v'.ownBlock = some w.heap.size) := by
  obtain ⟨i, hi, hz, hsize, hby⟩ := info_parts hinf
  obtain ⟨hl, hno, hnews, h1⟩ := hsrc
  cases ao with
  | none =>
    obtain ⟨rfl, rfl⟩ := hno rfl
    have hn : news = [] := List.eq_nil_of_length_eq_zero (by simpa using hl)
    subst hn
    exact ⟨v, w, run_append_owned_none w base t ty e i size ht hi v n xs hown, by simpa using hown, World.grownBy.refl _ _, .inl rfl⟩
  | some a =>
    have hnews := hnews a rfl
    obtain ⟨v', w', hr, h2, h3, h4⟩ := run_append_own (P := P) w base t ty e i z size bytes ht hi hz hsize hby hzs hsz v n xs hown a m c news hl hnews h1 h63 hbytes hbase
    refine ⟨v', w', hr, h2, h3, ?_⟩
    subst hsize
    subst hby
    rcases hown.2 with ⟨rfl, rfl⟩ | ⟨g, cap, cur, rfl, hbg, hg, hnc, hcm, hcs, htake⟩
    · by_cases hm : m = 0
      · subst hm
        have := h4.2 ⟨rfl, rfl⟩
        rw [this]; exact .inl rfl
      · have hr' := run_append_nil (P := P) w t ty e i z ht hi hz a m c news hl hnews (by omega) (by unfold maxLen at h63; omega) (by have hb := hbytes; simp only [Nat.zero_add] at hb; omega)
        rw [hr'] at hr
        injection hr with hr _
        rw [← hr]; exact .inr rfl
    · by_cases hroom : n + m ≤ cap
      · have hfit : n * i.size + news.length ≤ cur.size := by rw [hl, hcs, ← Nat.add_mul]; exact Nat.mul_le_mul_right _ hroom
        have hr' := run_append_room (P := P) w t ty e i ht hi g n cap cur hg a m c news hl hnews h1 hroom hfit
        rw [hr'] at hr
        injection hr with hr _
        rw [← hr]; exact .inl rfl
      · have holds : ∀ j u, xs[j]? = some u → w.cell? ((⟨g, 0, none⟩ : Addr).add j) = some u := hown.cells (g := g) rfl
        have hr' := run_append_grow (P := P) w t ty e i z ht hi hz ⟨g, 0, none⟩ n cap xs hown.1 holds a m c news hl hnews (by omega) (by unfold maxLen at h63; omega) (growslice_fits (by omega) hbytes)
        rw [hr'] at hr
        injection hr with hr _
        rw [← hr]; exact .inr rfl

theorem wpList_app {ops : Array Oper} {rest : List Oper} {o : Oper} {a : Act} {Q : Exit → Act → World → Prop} (hgd : o.guard = none) (s x : Operand) (t : TypeId)
    (ho : o.op = .call { callee := .builtin .append, args := #[s, x], argTypes := #[t, t] })
    (base : Nat) (e : TypeId) (z : Value) (size bytes : Nat) (ht : P.underlying t = some (.slice e)) (hinf : (P.info? e).map (fun i => (i.zero, i.size, i.bytes)) = some (some z, size, bytes))
    (hzs : z.cells.size = size) (hsz : 0 < size)
    (v : Value) (n : Nat) (xs : List Value) (hs : a.eval s = v) (hown : w.ownsRow base e size v n xs)
    (ao : Option Addr) (m c : Nat) (news : List Value) (hx : a.eval x = .slice ao m c) (hsrc : SrcIs w size ao m c news)
    (h63 : n + m ≤ maxLen) (hbytes : (n + m) * bytes ≤ 140737488355328) (hbase : base ≤ w.heap.size)
    (h : ∀ v' w', w'.ownsRow base e size v' (n + m) (xs ++ news) → w.grownBy w' v.ownBlock → (v'.ownBlock = v.ownBlock ∨ v'.ownBlock = some w.heap.size) → wpList P ops Q rest (a.put o.dst v') w') : wpList P ops Q (o :: rest) a w := by
  refine wpList_plain hgd fun K hK => ?_
  obtain ⟨v', w', hr, h2, h3, h4⟩ := run_app (P := P) w base t o.type e z size bytes ht hinf hzs hsz v n xs hown ao m c news hsrc h63 hbytes hbase
  unfold Oper.wp execOp
  simp only [ho, resolve, invoke, builtin, Sem.run_bind, Sem.run_pure, Result.andThen_ok, List.map_toArray, List.map_cons, List.map_nil, hs, hx, hr]
  exact hK _ _ (h v' w' h2 h3 h4)
end

/-- One new cell at a new block. -/
theorem src_one (w : World) (x : Value) (t : TypeId) (h1 : x.oneCell' = true) : SrcIs (w.alloc (.cells #[x] t)) 1 (some ⟨w.heap.size, 0, none⟩) 1 1 [x] := by
  refine ⟨rfl, fun h => by simp at h, ?_, by simpa using h1⟩
  rintro ad h j u hu
  obtain rfl := Option.some.inj h
  match j, hu with
  | 0, hu =>
    simp at hu
    subst hu
    simp [Addr.add]

end Go.Proofs.Ytliggpidkdiinaa

namespace Go.Proofs.Ytliggpidkdiinaa
open Go.RowKit

/-- Only block q may have turned. -/
def One (q : Nat) : Nat → Prop := fun k => k = q

theorem nix_trans {a b c : World} (h : Kept Nix a b) (k : Kept Nix b c) : Kept Nix a c := h.trans k (fun _ h => h) (fun _ _ h => h)

/-- What touches only what is new keeps all that was there. -/
theorem nix_put {S : Nat → Prop} {a b c : World} (h : Kept Nix a b) (k : Kept S b c) (hS : ∀ j, S j → a.heap.size ≤ j) : Kept Nix a c := h.trans k (fun _ h => h) (fun j hj e => by have := hS j e; omega)

/-- No block in both. -/
def Disj (S T : Nat → Prop) : Prop := ∀ k, S k → ¬ T k

theorem Disj.symm {S T : Nat → Prop} (h : Disj S T) : Disj T S := fun k h1 h2 => h k h2 h1

theorem disj_nix (S : Nat → Prop) : Disj S Nix := fun _ _ h => h

/-- What lay below stays apart from a thing that has grown. -/
theorem disj_grow {S : Nat → Prop} {p : Nat} {v v' : Value} {n : Nat} (hd : Disj S (Only p v)) (hS : ∀ k, S k → k < n) (hv : v'.ownBlock = v.ownBlock ∨ ∃ k, v'.ownBlock = some k ∧ n ≤ k) : Disj S (Only p v') := by
  rintro k hk (rfl | hk')
  · exact hd k hk (.inl rfl)
  · rcases hv with h | ⟨k', h, h2⟩
    · exact hd k hk (.inr (h ▸ hk'))
    · rw [h] at hk'
      have := hS k hk
      simp only [Option.some.injEq] at hk'
      omega

theorem disj_new {S T : Nat → Prop} {n : Nat} (hS : ∀ k, S k → k < n) (hT : ∀ k, T k → n ≤ k) : Disj S T := fun k h1 h2 => by have := hS k h1; have := hT k h2; omega

/-- The block of a slice. -/
def Own (v : Value) : Nat → Prop := fun k => v.ownBlock = some k

theorem owns_beside {base : Nat} {w w' : World} {e : TypeId} {size : Nat} {v : Value} {n : Nat} {xs : List Value} {q : Nat} {u u' : Value} (h : w.ownsRow base e size v n xs) (hk : Kept (Only q u) w w') (hd : Disj (Own v) (Only q u))
    (hv : u'.ownBlock = u.ownBlock ∨ ∃ k, u'.ownBlock = some k ∧ w.heap.size ≤ k) : w'.ownsRow base e size v n xs ∧ Disj (Own v) (Only q u') :=
  ⟨hk.owns h (fun k hk => hd k hk), disj_grow hd (fun _ hk => (h.lt _ hk).2) hv⟩

/-- A thing of the call's own that was turned: all that was there is kept. -/
theorem nix_own {base : Nat} {w1 w w' : World} {p : Nat} {v : Value} (hn : Kept Nix w1 w) (hk : Kept (Only p v) w w') (hf : ∀ k, Only p v k → base ≤ k) (hb : w1.heap.size ≤ base) : Kept Nix w1 w' :=
  nix_put hn hk (fun j hj => Nat.le_trans hb (hf j hj))

theorem only_nil (p k : Nat) : Only p (.slice none 0 0) k ↔ k = p := by simp [Only, Value.ownBlock]

/-- A row of the call's own has grown: nothing that was there before the call has turned. -/
theorem put_row {w w4 w5 w6 : World} {e : TypeId} {v : Value} {n : Nat} {xs : List Value} (k4 : Kept Nix w w4) (k5 : Kept Nix w4.drew w5) (o4 : w4.ownsRow w.heap.size e 1 v n xs) (g6 : w5.grownBy w6 v.ownBlock) : Kept Nix w w6 :=
  (nix_trans k4.drew k5).grown g6 (fun k hk => .inr (o4.lt k hk).1)

theorem Kept.undrew {S : Nat → Prop} {w w' : World} (h : Kept S w.drew w') : Kept S w w' := ⟨h.os, h.tape, h.output, h.size, h.block⟩

/-- The append onto a slice of the call's own, as one step of a region that draws its order. -/
theorem step_app {P : Program} (w : World) {ops : Array Oper} {o : Oper} {a : Act} {K : Act → World → Prop} {Q : Exit → Act → World → Prop} {E : Prop} (hgd : o.guard = none) (s x : Operand) (t : TypeId)
    (ho : o.op = .call { callee := .builtin .append, args := #[s, x], argTypes := #[t, t] })
    (base : Nat) (e : TypeId) (z : Value) (size bytes : Nat) (ht : P.underlying t = some (.slice e)) (hinf : (P.info? e).map (fun i => (i.zero, i.size, i.bytes)) = some (some z, size, bytes))
    (hzs : z.cells.size = size) (hsz : 0 < size)
    (v : Value) (n : Nat) (xs : List Value) (hs : a.eval s = v) (hown : w.ownsRow base e size v n xs)
    (ao : Option Addr) (m c : Nat) (news : List Value) (hx : a.eval x = .slice ao m c) (hsrc : SrcIs w size ao m c news)
    (h63 : n + m ≤ maxLen) (hbytes : (n + m) * bytes ≤ 140737488355328) (hbase : base ≤ w.heap.size)
    (h : ∀ v' w', w'.ownsRow base e size v' (n + m) (xs ++ news) → w.grownBy w' v.ownBlock → (v'.ownBlock = v.ownBlock ∨ v'.ownBlock = some w.heap.size) → K (a.put o.dst v') w') :
    if Region.wanted o (yielded ops a.tmps) = true then Oper.wp P o a w K Q else E := by
  have hw : Region.wanted o (yielded ops a.tmps) = true := by simp [Region.wanted, hgd]
  rw [if_pos hw]
  obtain ⟨v', w', hr, h2, h3, h4⟩ := run_app (P := P) w base t o.type e z size bytes ht hinf hzs hsz v n xs hown ao m c news hsrc h63 hbytes hbase
  unfold Oper.wp execOp
  simp only [ho, resolve, invoke, builtin, Sem.run_bind, Sem.run_pure, Result.andThen_ok, List.map_toArray, List.map_cons, List.map_nil, hs, hx, hr]
  exact h v' w' h2 h3 h4

/-- A slice that reads as these cells, wherever it lies. -/
def Sl (w : World) (v : Value) (xs : List Value) : Prop :=
  ∃ ao cap, v = .slice ao xs.length cap ∧ xs.length ≤ cap ∧ cap ≤ maxLen ∧ (ao = none → cap = 0) ∧
    (0 < xs.length → ∃ b off, ao = some ⟨b, off, none⟩ ∧ b < w.heap.size ∧ ∀ j u, xs[j]? = some u → w.cell? ⟨b, off + j, none⟩ = some u)

theorem sl_of_owns {w : World} {base : Nat} {e : TypeId} {v : Value} {n : Nat} {xs : List Value} (h : w.ownsRow base e 1 v n xs) : Sl w v xs := by
  have hn : xs.length = n := by simpa using h.1
  rcases h.2 with ⟨rfl, rfl⟩ | ⟨g, cap, cur, rfl, hb, hg, h1, h2, _⟩
  · exact ⟨none, 0, by rw [hn], by omega, by simp [maxLen], fun _ => rfl, fun h => by omega⟩
  · refine ⟨_, cap, by rw [hn], by omega, h2, fun h => by simp at h, fun _ => ⟨g, 0, rfl, lt_of_heap hg, fun j u hu => ?_⟩⟩
    have := h.cells (g := g) rfl j u hu
    rwa [Addr.add_lit] at this

theorem src_of_sl {w : World} {v : Value} {xs : List Value} (h : Sl w v xs) (h1 : ∀ u ∈ xs, u.oneCell' = true) : ∃ ao cap, v = .slice ao xs.length cap ∧ SrcIs w 1 ao xs.length cap xs := by
  obtain ⟨ao, cap, rfl, hc, hm, hno, hp⟩ := h
  refine ⟨ao, cap, rfl, by simp, fun e => ⟨by have := hno e; omega, hno e⟩, ?_, h1⟩
  rintro ad rfl j u hu
  have hj := (List.getElem?_eq_some_iff.1 hu).1
  obtain ⟨b, off, e, _, hh⟩ := hp (by omega)
  obtain rfl := Option.some.inj e
  rw [Addr.add_lit]
  exact hh j u hu

theorem Sl.kept {w w' : World} {v : Value} {xs : List Value} {S : Nat → Prop} (h : Sl w v xs) (hk : Kept S w w') (hS : ∀ b, b < w.heap.size → ¬ S b) : Sl w' v xs := by
  obtain ⟨ao, cap, rfl, hc, hm, hno, hp⟩ := h
  refine ⟨ao, cap, rfl, hc, hm, hno, fun h0 => ?_⟩
  obtain ⟨b, off, e, hb, hh⟩ := hp h0
  exact ⟨b, off, e, Nat.lt_of_lt_of_le hb hk.size, fun j u hu => (World.cell?_of_block (hk.block b hb (hS b hb))).trans (hh j u hu)⟩

theorem Sl.nix {w w' : World} {v : Value} {xs : List Value} (h : Sl w v xs) (hk : Kept Nix w w') : Sl w' v xs := h.kept hk (fun _ _ h => h)

theorem SrcIs.alloc {w : World} {size : Nat} {ao : Option Addr} {m c : Nat} {news : List Value} (h : SrcIs w size ao m c news) (o : Obj) : SrcIs (w.alloc o) size ao m c news := by
  obtain ⟨h1, h2, h3, h4⟩ := h
  refine ⟨h1, h2, fun ad e j u hu => ?_, h4⟩
  have hc := h3 ad e j u hu
  exact (World.cell?_of_block (Below.heap_alloc _ _ _ (World.block_lt_of_cell? w _ hc))).trans hc

/-- The cell of a slice of bytes at an index, as the walk asks for it. -/
theorem Sl.cells {w : World} {v : Value} {B : List Nat} (h : Sl w v (u8s B)) (h0 : 0 < B.length) : ∃ b off cap, v = .slice (some ⟨b, off, none⟩) B.length cap ∧ B.length ≤ cap ∧ cap ≤ maxLen ∧ ∀ j, j < B.length → w.cell? ⟨b, off + j, none⟩ = some (.int .u8 ((B.getD j 0 : Nat) : Int)) := by
  obtain ⟨ao, cap, rfl, hc, hm, hno, hp⟩ := h
  rw [u8s_length] at *
  obtain ⟨b, off, rfl, _, hh⟩ := hp h0
  exact ⟨b, off, cap, rfl, hc, hm, fun j hj => hh j _ (u8s_get B j hj)⟩

theorem Sl.shape {w : World} {v : Value} {B : List Nat} (h : Sl w v (u8s B)) : ∃ ao cap, v = .slice ao B.length cap := by
  obtain ⟨ao, cap, rfl, _⟩ := h
  rw [u8s_length]
  exact ⟨ao, cap, rfl⟩

theorem take_step {A B : List Nat} {i : Nat} (h : A.take i = B.take i) (h1 : i < A.length) (h2 : i < B.length) (hx : A.getD i 0 = B.getD i 0) : A.take (i + 1) = B.take (i + 1) := by
  rw [List.take_succ_eq_append_getElem h1, List.take_succ_eq_append_getElem h2, h]
  simp only [List.getD_eq_getElem?_getD, List.getElem?_eq_getElem h1, List.getElem?_eq_getElem h2, Option.getD_some] at hx
  rw [hx]

/-- A slice of integers, read by its index. -/
theorem Sl.ints {w : World} {v : Value} {k : IntKind} {zs : List Int} (h : Sl w v (zs.map (Value.int k))) : ∃ ao cap, v = .slice ao zs.length cap ∧ zs.length ≤ cap ∧ cap ≤ maxLen ∧
    (0 < zs.length → ∃ b off, ao = some ⟨b, off, none⟩ ∧ b < w.heap.size ∧ ∀ j, j < zs.length → w.cell? ⟨b, off + j, none⟩ = some (.int k (zs.getD j 0))) := by
  obtain ⟨ao, cap, rfl, hc, hm, hno, hp⟩ := h
  simp only [List.length_map] at *
  refine ⟨ao, cap, rfl, hc, hm, fun h0 => ?_⟩
  obtain ⟨b, off, rfl, hb, hh⟩ := hp h0
  exact ⟨b, off, rfl, hb, fun j hj => hh j _ (by simp [hj])⟩

theorem Sl.bools {w : World} {v : Value} {bs : List Bool} (h : Sl w v (bs.map Value.bool)) : ∃ ao cap, v = .slice ao bs.length cap ∧ bs.length ≤ cap ∧ cap ≤ maxLen ∧
    (0 < bs.length → ∃ b off, ao = some ⟨b, off, none⟩ ∧ b < w.heap.size ∧ ∀ j, j < bs.length → w.cell? ⟨b, off + j, none⟩ = some (.bool (bs.getD j false))) := by
  obtain ⟨ao, cap, rfl, hc, hm, hno, hp⟩ := h
  simp only [List.length_map] at *
  refine ⟨ao, cap, rfl, hc, hm, fun h0 => ?_⟩
  obtain ⟨b, off, rfl, hb, hh⟩ := hp h0
  exact ⟨b, off, rfl, hb, fun j hj => hh j _ (by simp [hj])⟩

theorem Sl.cellInt {w : World} {k : IntKind} {zs : List Int} {b off len cap : Nat} (h : Sl w (.slice (some ⟨b, off, none⟩) len cap) (zs.map (Value.int k))) {i : Nat} (hi : i < zs.length) : w.cell? ⟨b, off + i, none⟩ = some (.int k (zs.getD i 0)) := by
  obtain ⟨ao, c, e, _, _, hp⟩ := h.ints
  simp only [Value.slice.injEq] at e
  obtain ⟨rfl, rfl, rfl⟩ := e
  obtain ⟨b', off', e, _, hh⟩ := hp (by omega)
  simp only [Option.some.injEq, Addr.mk.injEq, and_true] at e
  obtain ⟨rfl, rfl⟩ := e
  exact hh i hi

theorem Sl.cellBool {w : World} {bs : List Bool} {b off len cap : Nat} (h : Sl w (.slice (some ⟨b, off, none⟩) len cap) (bs.map Value.bool)) {i : Nat} (hi : i < bs.length) : w.cell? ⟨b, off + i, none⟩ = some (.bool (bs.getD i false)) := by
  obtain ⟨ao, c, e, _, _, hp⟩ := h.bools
  simp only [Value.slice.injEq] at e
  obtain ⟨rfl, rfl, rfl⟩ := e
  obtain ⟨b', off', e, _, hh⟩ := hp (by omega)
  simp only [Option.some.injEq, Addr.mk.injEq, and_true] at e
  obtain ⟨rfl, rfl⟩ := e
  exact hh i hi

/-- Where a slice that isn't empty lies. -/
theorem Sl.where {w : World} {ao : Option Addr} {len cap : Nat} {xs : List Value} (h : Sl w (.slice ao len cap) xs) (h0 : 0 < len) : ∃ b off, ao = some ⟨b, off, none⟩ := by
  obtain ⟨ao', c, e, _, _, _, hp⟩ := h
  simp only [Value.slice.injEq] at e
  obtain ⟨rfl, rfl, rfl⟩ := e
  obtain ⟨b, off, e, _⟩ := hp h0
  exact ⟨b, off, e⟩

/-- A part of a slice: the cells from i on, n of them. -/
theorem Sl.part {w : World} {b off len cap : Nat} {xs : List Value} (h : Sl w (.slice (some ⟨b, off, none⟩) len cap) xs) (i n : Nat) (hin : i + n ≤ xs.length) (hn : 0 < n) : Sl w (.slice (some ⟨b, off + i, none⟩) n (cap - i)) ((xs.drop i).take n) := by
  obtain ⟨ao, c, e, hc, hm, hno, hp⟩ := h
  simp only [Value.slice.injEq] at e
  obtain ⟨rfl, rfl, rfl⟩ := e
  obtain ⟨b', off', e, hb, hh⟩ := hp (by omega)
  simp only [Option.some.injEq, Addr.mk.injEq, and_true] at e
  obtain ⟨rfl, rfl⟩ := e
  have hl : ((xs.drop i).take n).length = n := by simp; omega
  refine ⟨_, cap - i, by rw [hl], by rw [hl]; omega, by omega, fun h => by simp at h, fun _ => ⟨b, off + i, rfl, hb, fun j u hu => ?_⟩⟩
  have hj := (List.getElem?_eq_some_iff.1 hu).1
  rw [hl] at hj
  rw [List.getElem?_take, if_pos hj, List.getElem?_drop] at hu
  have := hh (i + j) u hu
  rwa [Nat.add_assoc]

def slen : Value → Nat
  | .slice _ n _ => n
  | _ => 0

def bls (l : List Bool) : List Value := l.map Value.bool

theorem bls_length (l : List Bool) : (bls l).length = l.length := by simp [bls]

theorem bls_one (l : List Bool) : ∀ u ∈ bls l, u.oneCell' = true := by
  intro u hu
  obtain ⟨_, _, rfl⟩ := List.mem_map.1 hu
  rfl

theorem bls_append (l m : List Bool) : bls (l ++ m) = bls l ++ bls m := by simp [bls]

end Go.Proofs.Ytliggpidkdiinaa

namespace Go.Proofs.Ytliggpidkdiinaa
open Go.RowKit Bx

theorem ret_int {k : IntKind} {a b : Int} (h : a = b) : Ending.returned (.int k a) = .returned (.int k b) := by rw [h]

theorem info_u8 : (Try.prog.info? 5).map (fun i => (i.zero, i.size, i.bytes)) = some (some (.int .u8 0), 1, 1) := by kernel_rfl

end Go.Proofs.Ytliggpidkdiinaa

namespace Go.Proofs.Ytliggpidkdiinaa
open Go.RowKit Bx

/-- A number folded; unfolded; k as it is held; whether one is near. -/
def fd (n : Int) : Nat := if 0 ≤ n then (2 * n).toNat else (-(2 * n) - 1).toNat
def uf (u : Nat) : Int := if u % 2 = 0 then ((u / 2 : Nat) : Int) else -((u / 2 : Nat) : Int) - 1
def kk (k : Int) : Nat := (max 0 (min k 30)).toNat
def nr (n : Int) : Bool := decide (-8589934592 ≤ n) && decide (n < 8589934592)

theorem kk_le (k : Int) : kk k ≤ 30 := by unfold kk; omega
theorem fd_lt {n : Int} (h0 : -9223372036854775808 ≤ n) (h1 : n ≤ 9223372036854775807) : fd n < 18446744073709551616 := by
  unfold fd; split <;> omega
theorem fd_near {n : Int} (h : nr n = true) : fd n < 17179869184 := by
  simp [nr] at h
  unfold fd; split <;> omega
theorem uf_fd (n : Int) : uf (fd n) = n := by
  unfold uf fd
  split <;> split <;> omega
theorem fd_uf (u : Nat) : fd (uf u) = u := by
  unfold uf fd
  split <;> split <;> omega

theorem fold_xor (n : Int) (h0 : -9223372036854775808 ≤ n) (h1 : n ≤ 9223372036854775807) :
    bits .xor .u64 (IntKind.u64.wrap (IntKind.u64.wrap n * 2)) (IntKind.u64.wrap (n / 9223372036854775808)) = ((fd n : Nat) : Int) := by
  have e1 : IntKind.u64.wrap (IntKind.u64.wrap n * 2) = (((2 * n) % 18446744073709551616).toNat : Int) := by
    rw [IntKind.wrap_u64, IntKind.wrap_u64]
    omega
  rw [e1]
  by_cases hn : 0 ≤ n
  · have e2 : IntKind.u64.wrap (n / 9223372036854775808) = ((0 : Nat) : Int) := by rw [IntKind.wrap_u64]; omega
    rw [e2, u64_xor_nat _ _ (by omega) (by omega), Nat.xor_zero]
    unfold fd; rw [if_pos hn]; omega
  · have e2 : IntKind.u64.wrap (n / 9223372036854775808) = ((2 ^ 64 - 1 : Nat) : Int) := by rw [IntKind.wrap_u64]; omega
    rw [e2, u64_xor_nat _ _ (by omega) (by omega), Nat.xor_comm, Lib.xor_ones64 _ (by omega)]
    unfold fd; rw [if_neg hn]; omega

set_option maxHeartbeats 400000 in
theorem fold_any (n : Int) (w : World) (h0 : -9223372036854775808 ≤ n) (h1 : n ≤ 9223372036854775807) : Calls Try.prog 54 #[.int .i64 n] w fun e w' => e = .returned (.int .u64 (fd n : Nat)) ∧ w = w' := by
  go_enter Try.func54, Try.ntmps54
  go_wp2
  go_ret
  refine ⟨?_, rfl⟩
  rw [← fold_xor n h0 h1]
  rfl

theorem xor_zero_i64 (x : Nat) (hx : x < 9223372036854775808) : bits .xor .i64 (x : Int) 0 = (x : Int) := by
  show IntKind.i64.wrap ((BitVec.ofInt 64 (x : Int) ^^^ BitVec.ofInt 64 0).toNat : Int) = _
  have h2 : (BitVec.ofInt 64 (x : Int)).toNat = x := by
    rw [BitVec.ofInt_natCast, BitVec.toNat_ofNat]; exact Nat.mod_eq_of_lt (by omega)
  have h1 : (BitVec.ofInt 64 0).toNat = 0 := by decide
  rw [BitVec.toNat_xor, h1, h2, Nat.xor_zero, IntKind.wrap_i64]
  omega
theorem xor_ones_i64 (x : Nat) (hx : x < 9223372036854775808) : bits .xor .i64 (x : Int) (-1) = -(x : Int) - 1 := by
  rw [← Lib.i64_not x hx]
  show IntKind.i64.wrap ((BitVec.ofInt 64 (x : Int) ^^^ BitVec.ofInt 64 (-1)).toNat : Int) = IntKind.i64.wrap ((BitVec.ofInt 64 (-1) ^^^ BitVec.ofInt 64 (x : Int)).toNat : Int)
  rw [BitVec.xor_comm]

theorem unfold_xor (u : Nat) (h : u < 18446744073709551616) : bits .xor .i64 ((u : Int) / 2) (wrap64 (-wrap64 (bits .and .u64 (u : Int) 1))) = uf u := by
  rw [Lib.u64_and1 _ (by omega) (by omega), show (u : Int) / 2 = ((u / 2 : Nat) : Int) by omega]
  unfold uf
  by_cases hu : u % 2 = 0
  · rw [if_pos hu, show wrap64 (-wrap64 ((u : Int) % 2)) = 0 by unfold wrap64; omega, xor_zero_i64 _ (by omega)]
  · rw [if_neg hu, show wrap64 (-wrap64 ((u : Int) % 2)) = -1 by unfold wrap64; omega, xor_ones_i64 _ (by omega)]

set_option maxHeartbeats 400000 in
theorem rheld_any (n : Int) (w : World) : Calls Try.prog 50 #[.int .i64 n] w fun e w' => e = .returned (.int .i64 (kk n : Nat)) ∧ w = w' := by
  have hw : (kk n : Int) = max 0 (min n 30) := by unfold kk; omega
  have HW := Lib.hid hw
  clear hw
  go_enter Try.func50, Try.ntmps50
  go_wp2
  all_goals
    go_ret
    exact ⟨ret_int (by rw [HW.out]; omega), rfl⟩

set_option maxHeartbeats 400000 in
theorem near_any (n : Int) (w : World) : Calls Try.prog 29 #[.int .i64 n] w fun e w' => e = .returned (.bool (nr n)) ∧ w = w' := by
  go_enter Try.func29, Try.ntmps29
  go_wp2
  all_goals
    go_ret
    refine ⟨congrArg (fun b => Ending.returned (Value.bool b)) ?_, rfl⟩
    simp only [nr]
    first | (rw [decide_eq_true (p := -8589934592 ≤ n) (by omega), Bool.true_and]) | (rw [decide_eq_false (p := -8589934592 ≤ n) (by omega), Bool.false_and])

set_option maxHeartbeats 400000 in
theorem higher_any (n : Int) (k : Nat) (w : World) (h : nr n = true) (hk : k ≤ 30) : Calls Try.prog 51 #[.int .i64 n, .int .i64 k] w fun e w' => e = .returned (.int .i64 ((fd n / 2 ^ k : Nat) : Int)) ∧ w = w' := by
  have hb : -8589934592 ≤ n ∧ n < 8589934592 := by simpa [nr] using h
  have hf := fd_near h
  have HF := Lib.hid (fold_any n w (by omega) (by omega))
  have HH := Lib.hid hb
  generalize fd n = u at *
  clear h hb
  go_enter Try.func51, Try.ntmps51
  go_wp2_with (go_at_call 54; refine HF.out.mono ?_; rintro e w' ⟨rfl, rfl⟩)
  go_ret
  refine ⟨ret_int ?_, rfl⟩
  have hd : u / 2 ^ k ≤ u := Nat.div_le_self _ _
  rw [show (u : Int) / 2 ^ k = ((u / 2 ^ k : Nat) : Int) by rw [Int.natCast_ediv, Int.natCast_pow]; rfl]
  generalize u / 2 ^ k = x at *
  unfold wrap64
  omega

/-- How many bits a number has. -/
def sz (n k : Int) : Int := if nr n = true then ((fd n / 2 ^ kk k : Nat) : Int) + 1 + (kk k : Int) else -1

theorem near_bounds {n : Int} (h : nr n = true) : -8589934592 ≤ n ∧ n < 8589934592 := by simpa [nr] using h
theorem high_lt {n : Int} (h : nr n = true) (k : Nat) : fd n / 2 ^ k < 17179869184 := Nat.lt_of_le_of_lt (Nat.div_le_self _ _) (fd_near h)

set_option maxHeartbeats 400000 in
theorem size_any (n k : Int) (w : World) : Calls Try.prog 39 #[.int .i64 n, .int .i64 k] w fun e w' => e = .returned (.int .i64 (sz n k)) ∧ w = w' := by
  by_cases hn : nr n = true
  · have e1 : sz n k = ((fd n / 2 ^ kk k : Nat) : Int) + 1 + (kk k : Int) := by simp [sz, hn]
    have hkl := kk_le k
    have hh := high_lt hn (kk k)
    have HN := Lib.hid (near_any n w)
    rw [hn] at HN
    have HH := Lib.hid (higher_any n (kk k) w hn hkl)
    have HK := Lib.hid (rheld_any k w)
    rw [e1]
    clear e1 hn
    generalize fd n / 2 ^ kk k = x at *
    generalize kk k = y at *
    go_enter Try.func39, Try.ntmps39
    go_wp2_with (first | (go_at_call 29; refine HN.out.mono ?_; rintro e w' ⟨rfl, rfl⟩) | (go_at_call 50; refine HK.out.mono ?_; rintro e w' ⟨rfl, rfl⟩) | (go_at_call 51; refine HH.out.mono ?_; rintro e w' ⟨rfl, rfl⟩))
    go_ret
    exact ⟨rfl, rfl⟩
  · have e1 : sz n k = -1 := by simp [sz, hn]
    have hn' : nr n = false := by simpa using hn
    have HN := Lib.hid (near_any n w)
    rw [hn'] at HN
    rw [e1]
    clear e1 hn hn'
    go_enter Try.func39, Try.ntmps39
    go_wp2_with (go_at_call 29; refine HN.out.mono ?_; rintro e w' ⟨rfl, rfl⟩)
    go_ret
    exact ⟨rfl, rfl⟩
end Go.Proofs.Ytliggpidkdiinaa

namespace Go.Proofs.Ytliggpidkdiinaa

/-- In a depth. -/
def inD (n d : Int) : Bool := decide (1 ≤ d) && decide (d ≤ 62) && decide (-(2 : Int) ^ (d.toNat - 1) ≤ n) && decide (n < (2 : Int) ^ (d.toNat - 1))

/-- What is wrong with the numbers of a sound. -/
def kindE (r d c : Int) : Int := if c < 1 ∨ 8 < c then 12 else if d < 4 ∨ 32 < d then 10 else if r < 1 ∨ 1048575 < r then 11 else 0

/-- A sample's bytes: how many. -/
def eachN (d : Int) : Nat := ((min (max d 4) 32 + 7) / 8).toNat

theorem eachN_lo (d : Int) : 1 ≤ eachN d := by unfold eachN; omega
theorem eachN_hi (d : Int) : eachN d ≤ 4 := by unfold eachN; omega
theorem eachN_val (d : Int) (h1 : 4 ≤ d) (h2 : d ≤ 32) : eachN d = ((d + 7) / 8).toNat := by unfold eachN; rw [Int.max_eq_left h1, Int.min_eq_left h2]

/-- How many samples the first channel has. -/
def manyN (L : List (List Int)) : Nat := (L.getD 0 []).length

theorem manyN_nil : manyN [] = 0 := rfl

def evenB (L : List (List Int)) : Bool := L.all (fun c => decide (c.length = manyN L))
def rangeB (L : List (List Int)) (d : Int) : Bool := L.all (fun c => c.all (fun n => inD n d))

/-- What is wrong with a sound. -/
def chkE (r d : Int) (L : List (List Int)) : Int :=
  if kindE r d (L.length : Int) = 0 then if evenB L = true then if rangeB L d = true then 0 else 6 else 13 else kindE r d (L.length : Int)

/-- A sample's bytes, the lowest first. -/
def sb (n : Int) : Nat → List Nat
  | 0 => []
  | e + 1 => (n % 256).toNat :: sb (n / 256) e

theorem sb_length (n : Int) (e : Nat) : (sb n e).length = e := by
  induction e generalizing n with
  | zero => rfl
  | succ e ih => simp [sb, ih]

theorem sb_lt (n : Int) (e : Nat) : ∀ b ∈ sb n e, b < 256 := by
  induction e generalizing n with
  | zero => simp [sb]
  | succ e ih =>
    intro b hb
    simp only [sb, List.mem_cons] at hb
    rcases hb with rfl | hb
    · omega
    · exact ih _ b hb

theorem sb_snoc (n : Int) (e : Nat) : sb n (e + 1) = sb n e ++ [(n / (256 : Int) ^ e % 256).toNat] := by
  induction e generalizing n with
  | zero => simp [sb]
  | succ e ih =>
    rw [sb, ih (n / 256)]
    simp only [sb, List.cons_append, List.cons.injEq, true_and, List.append_cancel_left_eq, and_true]
    rw [Int.ediv_ediv_of_nonneg (by omega), Int.pow_succ, Int.mul_comm ((256 : Int) ^ e)]

/-- The number of bytes, the lowest first. -/
def le : List Nat → Nat
  | [] => 0
  | b :: B => b + 256 * le B

theorem le_lt : ∀ (B : List Nat), (∀ b ∈ B, b < 256) → le B < 256 ^ B.length
  | [], _ => by simp [le]
  | b :: B, h => by
    have h1 := le_lt B (fun x hx => h x (List.mem_cons_of_mem _ hx))
    have h2 := h b (by simp)
    simp only [le, List.length_cons, Nat.pow_succ]
    omega

theorem le_append (A B : List Nat) : le (A ++ B) = le A + 256 ^ A.length * le B := by
  induction A with
  | nil => simp [le]
  | cons a A ih => simp only [List.cons_append, le, ih, List.length_cons, Nat.pow_succ]; rw [Nat.mul_add, Nat.add_assoc]; congr 2; rw [← Nat.mul_assoc, Nat.mul_comm 256]

theorem mod_mul (n P : Int) (hP : 0 < P) : n % (256 * P) = n % 256 + 256 * (n / 256 % P) := by
  have h1 := Int.mul_ediv_add_emod n 256
  have h2 := Int.mul_ediv_add_emod (n / 256) P
  have a1 := Int.emod_nonneg n (show (256 : Int) ≠ 0 by omega)
  have a2 := Int.emod_lt_of_pos n (show (0 : Int) < 256 by omega)
  have b1 := Int.emod_nonneg (n / 256) (show P ≠ 0 by omega)
  have b2 := Int.emod_lt_of_pos (n / 256) hP
  generalize n / 256 / P = q' at *
  generalize n / 256 % P = s at *
  have e : n = (n % 256 + 256 * s) + 256 * P * q' := by rw [Int.mul_assoc]; omega
  have e2 : n % (256 * P) = ((n % 256 + 256 * s) + 256 * P * q') % (256 * P) := by rw [← e]
  rw [e2, Int.add_mul_emod_self_left, Int.emod_eq_of_lt (by omega) (by omega)]

theorem le_sb (n : Int) (e : Nat) : (le (sb n e) : Int) = n % 256 ^ e := by
  induction e generalizing n with
  | zero => simp [sb, le, Int.emod_one]
  | succ e ih =>
    simp only [sb, le]
    have h1 := ih (n / 256)
    have h2 : 0 ≤ n % 256 := Int.emod_nonneg _ (by omega)
    rw [Int.natCast_add, Int.natCast_mul, h1, Int.toNat_of_nonneg h2]
    have h3 : (256 : Int) ^ (e + 1) = 256 * 256 ^ e := by rw [Int.pow_succ, Int.mul_comm]
    rw [h3]
    have hp : (0 : Int) < 256 ^ e := Int.pow_pos (by omega)
    rw [mod_mul n (256 ^ e) hp]
    rfl

theorem sb_le : ∀ (B : List Nat), (∀ b ∈ B, b < 256) → ∀ (z : Int), sb ((le B : Int) + z * 256 ^ B.length) B.length = B
  | [], _, _ => rfl
  | b :: B, h, z => by
    have h2 := h b (by simp)
    have h1 := sb_le B (fun x hx => h x (List.mem_cons_of_mem _ hx)) z
    simp only [le, List.length_cons, sb]
    have e1 : (((b + 256 * le B : Nat) : Int) + z * 256 ^ (B.length + 1)) = (b : Int) + 256 * ((le B : Int) + z * 256 ^ B.length) := by
      rw [Int.pow_succ, Int.natCast_add, Int.natCast_mul, Int.mul_add, ← Int.mul_assoc, Int.mul_comm 256 (z * _)]
      simp; omega
    rw [e1]
    have e2 : ((b : Int) + 256 * ((le B : Int) + z * 256 ^ B.length)) % 256 = b := by omega
    have e3 : ((b : Int) + 256 * ((le B : Int) + z * 256 ^ B.length)) / 256 = (le B : Int) + z * 256 ^ B.length := by omega
    rw [e2, e3, h1]
    simp

/-- The number that a sample's bytes tell. -/
def snum (B : List Nat) : Int := (le B : Int) - (if 128 ≤ B.getD (B.length - 1) 0 then (256 : Int) ^ B.length else 0)

theorem sb_snum (B : List Nat) (h : ∀ b ∈ B, b < 256) : sb (snum B) B.length = B := by
  unfold snum
  split
  · have := sb_le B h (-1)
    rwa [Int.neg_mul, Int.one_mul] at this
  · have := sb_le B h 0
    rwa [Int.zero_mul, Int.add_zero] at this

theorem snum_snoc (B : List Nat) (b : Nat) : snum (B ++ [b]) = (le B : Int) + (256 : Int) ^ B.length * ((b : Int) - (if 128 ≤ b then 256 else 0)) := by
  unfold snum
  have e : (B ++ [b]).getD ((B ++ [b]).length - 1) 0 = b := by simp
  rw [e, le_append]
  simp only [le, List.length_append, List.length_cons, List.length_nil, Nat.zero_add, Nat.mul_zero, Nat.add_zero, Int.natCast_add, Int.natCast_mul, Int.natCast_pow]
  split
  · rw [Int.pow_succ, Int.mul_sub]; simp; omega
  · simp

theorem top_of (n : Int) (e : Nat) (h1 : -((256 : Int) ^ e * 128) ≤ n) (h2 : n < (256 : Int) ^ e * 128) : snum (sb n (e + 1)) = n := by
  rw [sb_snoc, snum_snoc, sb_length, le_sb]
  have hp : (0 : Int) < 256 ^ e := Int.pow_pos (by omega)
  have hd := Int.mul_ediv_add_emod n (256 ^ e)
  have hm1 := Int.emod_nonneg n (show (256 : Int) ^ e ≠ 0 by omega)
  have hm2 := Int.emod_lt_of_pos n hp
  have hq1 : -128 ≤ n / 256 ^ e := by rw [Int.le_ediv_iff_mul_le hp]; rw [Int.neg_mul, Int.mul_comm]; exact h1
  have hq2 : n / 256 ^ e < 128 := by rw [Int.ediv_lt_iff_lt_mul hp]; rw [Int.mul_comm]; exact h2
  generalize n / 256 ^ e = q at *
  have hq : ((q % 256).toNat : Int) - (if 128 ≤ (q % 256).toNat then 256 else 0) = q := by
    split <;> omega
  rw [hq]
  omega

theorem pow_256 (e : Nat) : (256 : Int) ^ e = 2 ^ (8 * e) := by rw [Int.pow_mul]; rfl

theorem snum_sb (n d : Int) (h1 : 4 ≤ d) (h2 : d ≤ 32) (h : inD n d = true) : snum (sb n (eachN d)) = n := by
  simp only [inD, Bool.and_eq_true, decide_eq_true_eq] at h
  obtain ⟨⟨⟨_, _⟩, h3⟩, h4⟩ := h
  have he := eachN_lo d
  obtain ⟨e, he'⟩ : ∃ e, eachN d = e + 1 := ⟨eachN d - 1, by omega⟩
  rw [he']
  have hv := eachN_val d h1 h2
  have hle : d.toNat - 1 ≤ 8 * e + 7 := by omega
  have hp : (2 : Int) ^ (d.toNat - 1) ≤ 2 ^ (8 * e + 7) := by
    have := Nat.pow_le_pow_right (show 0 < 2 by omega) hle
    exact_mod_cast this
  have hq : (256 : Int) ^ e * 128 = 2 ^ (8 * e + 7) := by rw [pow_256, Int.pow_add]; rfl
  exact top_of n e (by rw [hq]; omega) (by rw [hq]; omega)

end Go.Proofs.Ytliggpidkdiinaa

namespace Go.Proofs.Ytliggpidkdiinaa

/-- Are all numbers near? -/
def nrs (L : List Int) : Bool := L.all nr

theorem nrs_nil : nrs [] = true := rfl
theorem nrs_append (A B : List Int) : nrs (A ++ B) = (nrs A && nrs B) := by simp [nrs]
theorem nrs_mem {L : List Int} (h : nrs L = true) {n : Int} (hn : n ∈ L) : nr n = true := List.all_eq_true.1 h n hn
theorem nrs_get {L : List Int} (h : nrs L = true) (i : Nat) (hi : i < L.length) : nr (L.getD i 0) = true := nrs_mem h (by simp [List.getD, hi])

theorem take_get {L : List Int} {i : Nat} (hi : i < L.length) : L.take (i + 1) = L.take i ++ [L.getD i 0] := by
  rw [List.take_succ_eq_append_getElem hi]
  simp [List.getD, hi]

theorem nrs_step {L : List Int} {i : Nat} (h : nrs (L.take i) = true) (hi : i < L.length) (h2 : nr (L.getD i 0) = true) : nrs (L.take (i + 1)) = true := by
  rw [take_get hi, nrs_append, h]
  show (true && (nr (L.getD i 0) && true)) = true
  rw [h2]; rfl

theorem nrs_not {L : List Int} {i : Nat} (hi : i < L.length) (h2 : nr (L.getD i 0) = false) : nrs L = false := by
  cases h : nrs L with
  | false => rfl
  | true => rw [nrs_get h i hi] at h2; cases h2

/-- The bits of near numbers by a k that is held. -/
def sN : List Int → Nat → Nat
  | [], _ => 0
  | n :: L, k => fd n / 2 ^ k + 1 + k + sN L k

theorem sN_nil (k : Nat) : sN [] k = 0 := rfl
theorem sN_append (A B : List Int) (k : Nat) : sN (A ++ B) k = sN A k + sN B k := by
  induction A with
  | nil => simp [sN]
  | cons n A ih => simp only [List.cons_append, sN, ih]; omega
theorem sN_one (n : Int) (k : Nat) : sN [n] k = fd n / 2 ^ k + 1 + k := rfl
theorem sN_step {L : List Int} {i : Nat} (hi : i < L.length) (k : Nat) : sN (L.take (i + 1)) k = sN (L.take i) k + (fd (L.getD i 0) / 2 ^ k + 1 + k) := by
  rw [take_get hi, sN_append, sN_one]
theorem sN_low (L : List Int) (k : Nat) : L.length * (k + 1) ≤ sN L k := by
  induction L with
  | nil => simp [sN]
  | cons n L ih =>
    simp only [List.length_cons, sN, Nat.succ_mul]
    have := Nat.zero_le (fd n / 2 ^ k)
    generalize fd n / 2 ^ k = x at *
    generalize L.length * (k + 1) = y at *
    omega
theorem sN_take_le (L : List Int) (i k : Nat) : sN (L.take i) k ≤ sN L k := by
  have h : sN L k = sN (L.take i) k + sN (L.drop i) k := by rw [← sN_append, List.take_append_drop]
  omega
theorem sN_high {L : List Int} (h : nrs L = true) (k : Nat) : sN L k ≤ L.length * (17179869184 + k) := by
  induction L with
  | nil => simp [sN]
  | cons n L ih =>
    have h1 := high_lt (nrs_mem h (n := n) (by simp)) k
    have h2 := ih (by simp [nrs] at h ⊢; exact h.2)
    simp only [List.length_cons, sN, Nat.add_mul]
    omega

theorem sN_big {L : List Int} (h : nrs L = true) (hl : L.length ≤ 1048576) (k : Nat) (hk : k ≤ 30) : sN L k ≤ 18014430000000000 := by
  have h1 := sN_high h k
  have h2 : L.length * (17179869184 + k) ≤ 1048576 * (17179869184 + 30) := Nat.mul_le_mul hl (by omega)
  omega

/-- Its bits by any k; -1 if one isn't near. -/
def cbits (L : List Int) (k : Int) : Int := if nrs L = true then (sN L (kk k) : Int) else -1

/-- How many bits a number has. -/
def blen (x : Nat) : Nat := if x = 0 then 0 else x.log2 + 1

theorem blen_lt (x : Nat) : x < 2 ^ blen x := by
  unfold blen
  split
  · next h => subst h; decide
  · exact Nat.lt_log2_self
theorem blen_le {x w : Nat} (h : x < 2 ^ w) : blen x ≤ w := by
  unfold blen
  split
  · omega
  · next h0 => have := (Nat.log2_lt h0).2 h; omega
theorem blen_iff (x w : Nat) : x < 2 ^ w ↔ blen x ≤ w :=
  ⟨blen_le, fun h => Nat.lt_of_lt_of_le (blen_lt x) (Nat.pow_le_pow_right (by decide) h)⟩

/-- The width. -/
def cw : List Int → Nat
  | [] => 0
  | n :: L => max (blen (fd n)) (cw L)

theorem cw_append (A B : List Int) : cw (A ++ B) = max (cw A) (cw B) := by
  induction A with
  | nil => simp [cw]
  | cons n A ih => simp only [List.cons_append, cw, ih]; omega
theorem cw_step {L : List Int} {i : Nat} (hi : i < L.length) : cw (L.take (i + 1)) = max (cw (L.take i)) (blen (fd (L.getD i 0))) := by
  rw [take_get hi, cw_append]
  simp [cw]
theorem cw_near {L : List Int} (h : nrs L = true) : cw L ≤ 34 := by
  induction L with
  | nil => simp [cw]
  | cons n L ih =>
    have h1 : blen (fd n) ≤ 34 := blen_le (by have := fd_near (nrs_mem h (n := n) (by simp)); omega)
    have h2 := ih (by simp [nrs] at h ⊢; exact h.2)
    simp only [cw]
    omega
theorem cw_get {L : List Int} {i : Nat} (hi : i < L.length) : blen (fd (L.getD i 0)) ≤ cw L := by
  have h : L = L.take (i + 1) ++ L.drop (i + 1) := (List.take_append_drop _ _).symm
  rw [h, cw_append, ← h, cw_step hi]
  omega

/-- Does a number fit a width? -/
def fits (n : Int) (w : Nat) : Bool := decide (blen (fd n) ≤ w)

theorem fits_in (n : Int) (w : Nat) (hw : w ≤ 62) : (inD n (w : Int) = true ∨ n = 0) ↔ blen (fd n) ≤ w := by
  rw [← blen_iff]
  by_cases h0 : w = 0
  · subst h0
    have e : inD n ((0 : Nat) : Int) = false := by unfold inD; rfl
    rw [e]
    unfold fd
    constructor
    · rintro (h | rfl)
      · cases h
      · decide
    · intro h
      right
      split at h <;> omega
  · obtain ⟨v, rfl⟩ : ∃ v, w = v + 1 := ⟨w - 1, by omega⟩
    have e : (((v + 1 : Nat) : Int)).toNat - 1 = v := by omega
    have hp : (0 : Int) < 2 ^ v := Int.pow_pos (by decide)
    unfold inD
    simp only [Bool.and_eq_true, decide_eq_true_eq, e]
    have hn : ((2 ^ v : Nat) : Int) = (2 : Int) ^ v := by simp
    rw [← hn] at hp ⊢
    rw [Nat.pow_succ]
    generalize 2 ^ v = x at *
    unfold fd
    split <;> omega

def cwid (L : List Int) : Int := if nrs L = true then (cw L : Int) else -1

/-- Its bits by any way. -/
def ceach (L : List Int) (k : Int) (raw : Bool) : Int :=
  if raw = true then (if nrs L = true ∧ (cw L : Int) ≤ k ∧ k ≤ 31 then 5 + k * (L.length : Int) else -1) else cbits L k

/-- The first k up to m by which there are fewest bits. -/
def bk (L : List Int) : Nat → Nat
  | 0 => 0
  | m + 1 => if sN L (m + 1) < sN L (bk L m) then m + 1 else bk L m

theorem bk_le (L : List Int) (m : Nat) : bk L m ≤ m := by
  induction m with
  | zero => simp [bk]
  | succ m ih => simp only [bk]; split <;> omega

theorem bk_least (L : List Int) (m : Nat) : ∀ j, j ≤ m → sN L (bk L m) ≤ sN L j := by
  induction m with
  | zero =>
    intro j hj
    rw [Nat.le_zero.1 hj]
    exact Nat.le_refl _
  | succ m ih =>
    intro j hj
    simp only [bk]
    by_cases h : j ≤ m
    · have := ih j h
      split <;> omega
    · obtain rfl : j = m + 1 := by omega
      split <;> omega

theorem bk_first (L : List Int) (m : Nat) : ∀ j, j < bk L m → sN L (bk L m) < sN L j := by
  induction m with
  | zero => intro j hj; simp [bk] at hj
  | succ m ih =>
    intro j hj
    simp only [bk] at hj ⊢
    split at hj
    · next h =>
      rw [if_pos h]
      have := bk_least L m j (by omega)
      omega
    · next h =>
      rw [if_neg h]
      exact ih j hj

/-- What is lost from a k to the next never grows. -/
theorem sN_conv (L : List Int) (k : Nat) : 2 * sN L (k + 1) ≤ sN L k + sN L (k + 2) := by
  induction L with
  | nil => simp [sN]
  | cons n L ih =>
    have h1 : fd n / 2 ^ (k + 1) = fd n / 2 ^ k / 2 := by rw [Nat.pow_succ, Nat.div_div_eq_div_mul]
    have h2 : fd n / 2 ^ (k + 2) = fd n / 2 ^ k / 4 := by rw [Nat.pow_add, Nat.div_div_eq_div_mul]
    simp only [sN, h1, h2]
    generalize fd n / 2 ^ k = x
    omega

theorem sN_up {L : List Int} {k : Nat} (h : sN L k ≤ sN L (k + 1)) : ∀ j, sN L (k + j) ≤ sN L (k + j + 1) := by
  intro j
  induction j with
  | zero => exact h
  | succ j ih =>
    have := sN_conv L (k + j)
    have e : k + (j + 1) = k + j + 1 := by omega
    have e2 : k + j + 2 = k + j + 1 + 1 := by omega
    rw [e]
    rw [e2] at this
    omega

theorem bk_stop {L : List Int} {b : Nat} (hb : bk L b = b) (h : sN L b ≤ sN L (b + 1)) : ∀ j, bk L (b + j) = b := by
  have hup : ∀ j, sN L b ≤ sN L (b + j) := by
    intro j
    induction j with
    | zero => exact Nat.le_refl _
    | succ j ih => exact Nat.le_trans ih (sN_up h j)
  intro j
  induction j with
  | zero => exact hb
  | succ j ih =>
    show bk L (b + j + 1) = b
    have := hup (j + 1)
    rw [bk, ih, if_neg (by rw [Nat.add_assoc]; omega)]

theorem bk_at {L : List Int} {b m : Nat} (hb : bk L b = b) (h : sN L b ≤ sN L (b + 1)) (hm : b ≤ m) : bk L m = b := by
  have := bk_stop hb h (m - b)
  rwa [show b + (m - b) = m by omega] at this

/-- The best way: is it Raw; its k, or width; how many bits. -/
def cbR (L : List Int) (m : Nat) : Bool := decide (cw L ≤ 31) && decide (5 + L.length * cw L < sN L (bk L m))
def cbK (L : List Int) (m : Nat) : Nat := if cbR L m = true then cw L else bk L m
def cbN (L : List Int) (m : Nat) : Nat := if cbR L m = true then 5 + L.length * cw L else sN L (bk L m)

/-- The answer of Best: k, raw, bits, what is wrong. -/
def bestK (L : List Int) (m : Nat) : Int := if nrs L = true then (cbK L m : Int) else 0
def bestR (L : List Int) (m : Nat) : Bool := if nrs L = true then cbR L m else false
def bestN (L : List Int) (m : Nat) : Int := if nrs L = true then (cbN L m : Int) else 0
def bestE (L : List Int) : Int := if nrs L = true then 0 else 6

theorem best_near {L : List Int} (h : nrs L = true) (m : Nat) : bestK L m = (cbK L m : Int) ∧ bestR L m = cbR L m ∧ bestN L m = (cbN L m : Int) ∧ bestE L = 0 := by
  simp [bestK, bestR, bestN, bestE, h]

theorem best_far {L : List Int} (h : nrs L = false) (m : Nat) : bestK L m = 0 ∧ bestR L m = false ∧ bestN L m = 0 ∧ bestE L = 6 := by
  simp [bestK, bestR, bestN, bestE, h]

theorem cbN_least (L : List Int) (m j : Nat) (hj : j ≤ m) : cbN L m ≤ sN L j := by
  have h := bk_least L m j hj
  unfold cbN
  by_cases hr : cbR L m = true
  · rw [if_pos hr]
    simp only [cbR, Bool.and_eq_true, decide_eq_true_eq] at hr
    omega
  · rw [if_neg hr]; exact h

theorem cbN_raw (L : List Int) (m : Nat) (h : cw L ≤ 31) : cbN L m ≤ 5 + L.length * cw L := by
  unfold cbN
  by_cases hr : cbR L m = true
  · rw [if_pos hr]; exact Nat.le_refl _
  · rw [if_neg hr]
    simp only [cbR, decide_eq_true h, Bool.true_and, decide_eq_true_eq] at hr
    omega

end Go.Proofs.Ytliggpidkdiinaa
