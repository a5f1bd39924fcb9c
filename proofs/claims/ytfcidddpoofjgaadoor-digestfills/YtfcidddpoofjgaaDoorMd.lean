/- MD5 in plain numbers: words, steps, blocks, texts. No program. -/
namespace Go.Proofs.YtfcidddpoofjgaaDoor
namespace Md

/-- What three words are mixed to, by the kind. -/
def mix : Nat → Nat → Nat → Nat → Nat
  | 0, b, c, d => (b &&& c) ||| ((4294967295 ^^^ b) &&& d)
  | 1, b, c, d => (d &&& b) ||| ((4294967295 ^^^ d) &&& c)
  | 2, b, c, d => (b ^^^ c) ^^^ d
  | _, b, c, d => c ^^^ (b ||| (4294967295 ^^^ d))

def tims : Nat → Nat
  | 0 => 1
  | 1 => 5
  | 2 => 3
  | _ => 7

def plus : Nat → Nat
  | 0 => 0
  | 1 => 1
  | 2 => 5
  | _ => 0

def trns : Nat → List Nat
  | 0 => [7, 12, 17, 22]
  | 1 => [5, 9, 14, 20]
  | 2 => [4, 11, 16, 23]
  | _ => [6, 10, 15, 21]

def sines : List Nat := [3614090360, 3905402710, 606105819, 3250441966, 4118548399, 1200080426, 2821735955, 4249261313,
  1770035416, 2336552879, 4294925233, 2304563134, 1804603682, 4254626195, 2792965006, 1236535329,
  4129170786, 3225465664, 643717713, 3921069994, 3593408605, 38016083, 3634488961, 3889429448,
  568446438, 3275163606, 4107603335, 1163531501, 2850285829, 4243563512, 1735328473, 2368359562,
  4294588738, 2272392833, 1839030562, 4259657740, 2763975236, 1272893353, 4139469664, 3200236656,
  681279174, 3936430074, 3572445317, 76029189, 3654602809, 3873151461, 530742520, 3299628645,
  4096336452, 1126891415, 2878612391, 4237533241, 1700485571, 2399980690, 4293915773, 2240044497,
  1873313359, 4264355552, 2734768916, 1309151649, 4149444226, 3174756917, 718787259, 3951481745]

def sine (i : Nat) : Nat := sines.getD i 0
def trn (n i : Nat) : Nat := (trns n).getD (i % 4) 0
def idx (n i : Nat) : Nat := (tims n * i + plus n) % 16

theorem sine_lt (i : Nat) : sine i < 4294967296 := by
  by_cases h : i < 64
  · have : ∀ j, j < 64 → sine j < 4294967296 := by decide +kernel
    exact this i h
  · have : sines[i]? = none := List.getElem?_eq_none (by show 64 ≤ i; omega)
    simp [sine, List.getD, this]

theorem trn_range : ∀ n, n < 4 → ∀ j, j < 4 → 0 < (trns n).getD j 0 ∧ (trns n).getD j 0 < 32 := by decide +kernel
theorem trn_lt (n i : Nat) (hn : n < 4) : 0 < trn n i ∧ trn n i < 32 := trn_range n hn (i % 4) (Nat.mod_lt _ (by decide))

/-- A word is turned. -/
def rot (x s : Nat) : Nat := x * 2 ^ s % 4294967296 + x / 2 ^ (32 - s)

structure Quad where
  a : Nat
  b : Nat
  c : Nat
  d : Nat

def Quad.fits (q : Quad) : Prop := q.a < 4294967296 ∧ q.b < 4294967296 ∧ q.c < 4294967296 ∧ q.d < 4294967296

/-- What is turned in a step. -/
def sum (X : List Nat) (n i : Nat) (q : Quad) : Nat := (q.a + mix n q.b q.c q.d + sine i + X.getD (idx n i) 0) % 4294967296

def stp (X : List Nat) (i : Nat) (q : Quad) : Quad := ⟨q.d, (q.b + rot (sum X (i / 16) i q) (trn (i / 16) i)) % 4294967296, q.b, q.c⟩

def stps (X : List Nat) : Nat → Quad → Quad
  | 0, q => q
  | k + 1, q => stp X k (stps X k q)

def add (q r : Quad) : Quad := ⟨(q.a + r.a) % 4294967296, (q.b + r.b) % 4294967296, (q.c + r.c) % 4294967296, (q.d + r.d) % 4294967296⟩

def blk (q : Quad) (X : List Nat) : Quad := add q (stps X 64 q)

/-- A word of bytes. -/
def wrd (B : List Nat) (j : Nat) : Nat := B.getD (4 * j) 0 + 256 * B.getD (4 * j + 1) 0 + 65536 * B.getD (4 * j + 2) 0 + 16777216 * B.getD (4 * j + 3) 0

def wrds (B : List Nat) : List Nat := (List.range 16).map (wrd B)

def q0 : Quad := ⟨1732584193, 4023233417, 2562383102, 271733878⟩

/-- The words behind n blocks of a text. -/
def digN : Nat → List Nat → Quad
  | 0, _ => q0
  | n + 1, L => blk (digN n L) (wrds ((L.drop (64 * n)).take 64))

def dig (L : List Nat) : Quad := digN (L.length / 64) L

/-- Bytes of a number, the lowest one first. -/
def les : Nat → Nat → List Nat
  | 0, _ => []
  | k + 1, n => n % 256 :: les k (n / 256)

def zer (n : Nat) : Nat := (119 - n % 64) % 64
def fil (n : Nat) : List Nat := 128 :: (List.replicate (zer n) 0 ++ les 8 (8 * n))

def tell (q : Quad) : List Nat := les 4 q.a ++ les 4 q.b ++ les 4 q.c ++ les 4 q.d

def md (L : List Nat) : List Nat := tell (dig (L ++ fil L.length))

theorem md_nil : (md []).take 4 = [212, 29, 140, 217] := by decide +kernel
theorem md_abc : (md [97, 98, 99]).take 4 = [144, 1, 80, 152] := by decide +kernel

/-! Bounds -/

theorem les_length : ∀ k n, (les k n).length = k := by
  intro k
  induction k with
  | zero => intro n; rfl
  | succ k ih => intro n; simp [les, ih]
theorem les_lt : ∀ k n, ∀ b ∈ les k n, b < 256 := by
  intro k
  induction k with
  | zero => intro n b hb; simp [les] at hb
  | succ k ih =>
    intro n b hb
    simp only [les, List.mem_cons] at hb
    rcases hb with rfl | hb
    · exact Nat.mod_lt _ (by decide)
    · exact ih _ b hb
theorem les_succ : ∀ k n, les (k + 1) n = les k n ++ [n / 256 ^ k % 256] := by
  intro k
  induction k with
  | zero => intro n; simp [les]
  | succ k ih =>
    intro n
    rw [les, ih (n / 256), les, List.cons_append, Nat.div_div_eq_div_mul, Nat.pow_succ']
theorem les_get : ∀ k n i, i < k → (les k n).getD i 0 = n / 256 ^ i % 256 := by
  intro k
  induction k with
  | zero => intro n i h; omega
  | succ k ih =>
    intro n i h
    cases i with
    | zero => simp [les]
    | succ i =>
      have h1 := ih (n / 256) i (by omega)
      rw [Nat.div_div_eq_div_mul, ← Nat.pow_succ'] at h1
      rw [← h1]
      simp [les, List.getD]

theorem md_length (L : List Nat) : (md L).length = 16 := by simp [md, tell, les_length]
theorem md_lt (L : List Nat) : ∀ b ∈ md L, b < 256 := by
  intro b hb
  simp only [md, tell, List.mem_append] at hb
  rcases hb with ((hb | hb) | hb) | hb <;> exact les_lt _ _ b hb

theorem fil_lt (n : Nat) : ∀ b ∈ fil n, b < 256 := by
  intro b hb
  simp only [fil, List.mem_cons, List.mem_append, List.mem_replicate] at hb
  rcases hb with rfl | ⟨_, rfl⟩ | hb
  · decide
  · decide
  · exact les_lt _ _ b hb
theorem fil_length (n : Nat) : (fil n).length = 9 + zer n := by simp [fil, les_length]; omega
theorem fil_whole (n : Nat) : (n + (fil n).length) % 64 = 0 := by rw [fil_length]; unfold zer; omega

theorem mix_lt (n b c d : Nat) (hb : b < 4294967296) (hc : c < 4294967296) (hd : d < 4294967296) : mix n b c d < 4294967296 := by
  have e : (4294967296 : Nat) = 2 ^ 32 := by decide
  have h1 : (4294967295 : Nat) < 2 ^ 32 := by decide
  rw [e] at *
  unfold mix
  split
  · exact Nat.or_lt_two_pow (Nat.and_lt_two_pow _ hc) (Nat.and_lt_two_pow _ hd)
  · exact Nat.or_lt_two_pow (Nat.and_lt_two_pow _ hb) (Nat.and_lt_two_pow _ hc)
  · exact Nat.xor_lt_two_pow (Nat.xor_lt_two_pow hb hc) hd
  · exact Nat.xor_lt_two_pow hc (Nat.or_lt_two_pow hb (Nat.xor_lt_two_pow h1 hd))

theorem stp_fits (X : List Nat) (i : Nat) {q : Quad} (h : q.fits) : (stp X i q).fits := ⟨h.2.2.2, Nat.mod_lt _ (by decide), h.2.1, h.2.2.1⟩
theorem stps_fits (X : List Nat) {q : Quad} (h : q.fits) : ∀ k, (stps X k q).fits
  | 0 => h
  | k + 1 => stp_fits X k (stps_fits X h k)
theorem blk_fits (q : Quad) (X : List Nat) : (blk q X).fits := ⟨Nat.mod_lt _ (by decide), Nat.mod_lt _ (by decide), Nat.mod_lt _ (by decide), Nat.mod_lt _ (by decide)⟩
theorem digN_fits : ∀ n L, (digN n L).fits
  | 0, _ => by unfold digN Quad.fits q0; decide
  | _ + 1, _ => blk_fits _ _
theorem dig_fits (L : List Nat) : (dig L).fits := digN_fits _ _

theorem getD_lt {B : List Nat} (h : ∀ b ∈ B, b < 256) (i : Nat) : B.getD i 0 < 256 := by
  rw [List.getD_eq_getElem?_getD]
  cases e : B[i]? with
  | none => simp
  | some x => simpa using h x (List.mem_of_getElem? e)

theorem wrd_lt {B : List Nat} (h : ∀ b ∈ B, b < 256) (j : Nat) : wrd B j < 4294967296 := by
  have h0 := getD_lt h (4 * j)
  have h1 := getD_lt h (4 * j + 1)
  have h2 := getD_lt h (4 * j + 2)
  have h3 := getD_lt h (4 * j + 3)
  unfold wrd
  omega

theorem wrds_get (B : List Nat) (j : Nat) (hj : j < 16) : (wrds B).getD j 0 = wrd B j := by simp [wrds, hj]

/-! Turning, step by step -/

theorem rot_zero (x : Nat) (hx : x < 4294967296) : rot x 0 = x := by unfold rot; simp; omega

theorem rot_parts (x s : Nat) (hs : s ≤ 32) : rot x s = x % 2 ^ (32 - s) * 2 ^ s + x / 2 ^ (32 - s) := by
  unfold rot
  have e : (4294967296 : Nat) = 2 ^ (32 - s) * 2 ^ s := by rw [← Nat.pow_add, show 32 - s + s = 32 by omega]
  rw [e, Nat.mul_mod_mul_right]

theorem rot_lt (x s : Nat) (hs : s ≤ 32) (hx : x < 4294967296) : rot x s < 4294967296 := by
  rw [rot_parts x s hs]
  have e : (4294967296 : Nat) = 2 ^ (32 - s) * 2 ^ s := by rw [← Nat.pow_add, show 32 - s + s = 32 by omega]
  have h1 : x / 2 ^ (32 - s) < 2 ^ s := by rw [Nat.div_lt_iff_lt_mul (Nat.two_pow_pos _)]; rw [Nat.mul_comm, ← e]; exact hx
  have h2 := Nat.mod_lt x (Nat.two_pow_pos (32 - s))
  have h3 : (x % 2 ^ (32 - s) + 1) * 2 ^ s ≤ 2 ^ (32 - s) * 2 ^ s := Nat.mul_le_mul_right _ h2
  rw [Nat.add_mul, Nat.one_mul] at h3
  omega

theorem rot_succ (x s : Nat) (hs : s < 32) (hx : x < 4294967296) : rot x (s + 1) = 2 * rot x s % 4294967296 + rot x s / 2147483648 := by
  rw [rot_parts x s (by omega), rot_parts x (s + 1) (by omega)]
  have e1 : 32 - s = (31 - s) + 1 := by omega
  have e2 : 32 - (s + 1) = 31 - s := by omega
  rw [e1, e2, Nat.pow_succ 2 (31 - s), Nat.pow_succ 2 s]
  have e3 : (2147483648 : Nat) = 2 ^ (31 - s) * 2 ^ s := by rw [← Nat.pow_add, show 31 - s + s = 31 by omega]
  have hp : 0 < 2 ^ (31 - s) := Nat.two_pow_pos _
  have hq : 0 < 2 ^ s := Nat.two_pow_pos _
  generalize 2 ^ (31 - s) = P at *
  generalize 2 ^ s = Q at *
  have hlo := Nat.mod_lt x hp
  have hhi : x / P < 2 * Q := by rw [Nat.div_lt_iff_lt_mul hp, Nat.mul_assoc, Nat.mul_comm Q P, ← e3]; omega
  have e4 : x % (P * 2) = x / P % 2 * P + x % P := by rw [Nat.mod_mul, Nat.add_comm, Nat.mul_comm]
  have e5 : x / (P * 2) = x / P / 2 := by rw [Nat.div_div_eq_div_mul]
  rw [e4, e5]
  generalize x / P = hi at *
  generalize x % P = lo at *
  have hb : hi % 2 < 2 := Nat.mod_lt _ (by decide)
  have hs1 : lo * Q + hi / 2 < P * Q := by
    have : (lo + 1) * Q ≤ P * Q := Nat.mul_le_mul_right _ hlo
    rw [Nat.add_mul, Nat.one_mul] at this
    omega
  have e6 : (hi % 2 * P + lo) * Q + hi / 2 = hi % 2 * (P * Q) + (lo * Q + hi / 2) := by rw [Nat.add_mul, Nat.mul_assoc]; omega
  rw [e6, ← e3]
  rw [← e3] at hs1
  have e7 : lo * (Q * 2) = 2 * (lo * Q) := by rw [← Nat.mul_assoc]; omega
  rw [e7]
  generalize lo * Q = Z at *
  omega

/-! Texts -/

theorem digN_append (n : Nat) (L R : List Nat) (h : 64 * n ≤ L.length) : digN n (L ++ R) = digN n L := by
  induction n with
  | zero => rfl
  | succ n ih =>
    rw [digN, digN, ih (by omega)]
    congr 2
    rw [List.drop_append_of_le_length (by omega), List.take_append_of_le_length (by simp; omega)]

/-- A part behind a text that doesn't make a block whole changes no word. -/
theorem dig_short (L R : List Nat) (h : (L.length % 64) + R.length < 64) : dig (L ++ R) = dig L := by
  unfold dig
  rw [show (L ++ R).length / 64 = L.length / 64 by simp; omega]
  exact digN_append _ _ _ (by omega)

/-- One that makes it whole changes them by that block. -/
theorem dig_whole (L R : List Nat) (h : (L.length % 64) + R.length = 64) : dig (L ++ R) = blk (dig L) (wrds (L.drop (L.length / 64 * 64) ++ R)) := by
  unfold dig
  rw [show (L ++ R).length / 64 = L.length / 64 + 1 by simp; omega, digN, digN_append _ _ _ (by omega)]
  congr 2
  rw [Nat.mul_comm, List.drop_append_of_le_length (by omega), List.take_of_length_le]
  simp
  omega

end Md
end Go.Proofs.YtfcidddpoofjgaaDoor
