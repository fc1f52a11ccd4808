/- SHA-256 in plain arithmetic: no program is named here. Its constants by roots of primes; a block's 64 numbers; a round; the hash's bytes. -/
import Derived.Test.YtnnodibjocilmaaDoorDig
namespace Go.Proofs.YtnnodibjocilmaaDoor.SmWord
set_option maxRecDepth 100000

/-- 2^32 -/
abbrev D32 : Nat := 4294967296
/-! Roots -/
/-- The greatest number below 2^k more than n of which f says yes, bit by bit from above. -/
def rt (f : Nat → Bool) : Nat → Nat → Nat
  | 0, n => n
  | k + 1, n => rt f k (if f (n + 2 ^ k) then n + 2 ^ k else n)
def sqOk (p n : Nat) : Bool := decide (n * n ≤ p * 256 ^ 8)
def cuOk (p n : Nat) : Bool := decide (n * n * n ≤ p * 256 ^ 12)
def prs : List Nat := [2, 3, 5, 7, 11, 13, 17, 19, 23, 29, 31, 37, 41, 43, 47, 53, 59, 61, 67, 71, 73, 79, 83, 89, 97, 101, 103, 107, 109, 113, 127, 131, 137, 139, 149, 151, 157, 163, 167, 173, 179, 181, 191, 193, 197, 199, 211, 223, 227, 229, 233, 239, 241, 251, 257, 263, 269, 271, 277, 281, 283, 293, 307, 311]
def ck (k : Nat) : Nat := [1116352408, 1899447441, 3049323471, 3921009573, 961987163, 1508970993, 2453635748, 2870763221, 3624381080, 310598401, 607225278, 1426881987, 1925078388, 2162078206, 2614888103, 3248222580, 3835390401, 4022224774, 264347078, 604807628, 770255983, 1249150122, 1555081692, 1996064986, 2554220882, 2821834349, 2952996808, 3210313671, 3336571891, 3584528711, 113926993, 338241895, 666307205, 773529912, 1294757372, 1396182291, 1695183700, 1986661051, 2177026350, 2456956037, 2730485921, 2820302411, 3259730800, 3345764771, 3516065817, 3600352804, 4094571909, 275423344, 430227734, 506948616, 659060556, 883997877, 958139571, 1322822218, 1537002063, 1747873779, 1955562222, 2024104815, 2227730452, 2361852424, 2428436474, 2756734187, 3204031479, 3329325298].getD k 0
def ch0 (k : Nat) : Nat := [1779033703, 3144134277, 1013904242, 2773480762, 1359893119, 2600822924, 528734635, 1541459225].getD k 0
theorem roots_cube : ∀ k, k < 64 → rt (cuOk (prs.getD k 0)) 37 0 % D32 = ck k := by decide +kernel
theorem roots_square : ∀ k, k < 8 → rt (sqOk (prs.getD k 0)) 37 0 % D32 = ch0 k := by decide +kernel
theorem rt_lt (f : Nat → Bool) : ∀ k n, rt f k n < n + 2 ^ k
  | 0, n => by simp [rt]
  | k + 1, n => by
    have h1 := rt_lt f k (if f (n + 2 ^ k) then n + 2 ^ k else n)
    have h2 : 2 ^ (k + 1) = 2 ^ k + 2 ^ k := by rw [Nat.pow_succ]; omega
    have h3 := Nat.two_pow_pos k
    unfold rt
    split at h1 <;> rename_i h
    · rw [if_pos h]; omega
    · rw [if_neg h]; omega
theorem ck_lt : ∀ k, k < 64 → ck k < D32 := by decide
theorem ch0_lt : ∀ k, k < 8 → ch0 k < D32 := by decide
/-- Is p a prime: by the divisors d with d * d <= p. -/
def isP (p : Nat) : Nat → Bool
  | 0 => true
  | d + 1 => isP p d && !(decide (2 ≤ d ∧ d * d ≤ p) && p % d == 0)
theorem prs_all : (List.range 312).filter (fun p => decide (2 ≤ p) && isP p 20) = prs := by decide +kernel

/-! Words of 32 bits -/
/-- Turned down by n bits. -/
def dn (x n : Nat) : Nat := (x / 2 ^ n) ||| (x * 2 ^ (32 - n) % D32)
theorem D_two : D32 = 2 ^ 32 := by decide
theorem or_lt32 {x y : Nat} (hx : x < D32) (hy : y < D32) : x ||| y < D32 := by rw [D_two] at *; exact Nat.or_lt_two_pow hx hy
theorem xor_lt32 {x y : Nat} (hx : x < D32) (hy : y < D32) : x ^^^ y < D32 := by rw [D_two] at *; exact Nat.xor_lt_two_pow hx hy
theorem and_lt32 {x y : Nat} (hx : x < D32) : x &&& y < D32 := Nat.lt_of_le_of_lt Nat.and_le_left hx
theorem dn_lt {x : Nat} (n : Nat) (h : x < D32) : dn x n < D32 := or_lt32 (Nat.lt_of_le_of_lt (Nat.div_le_self _ _) h) (Nat.mod_lt _ (by decide))
def g0 (x : Nat) : Nat := dn x 7 ^^^ dn x 18 ^^^ x / 8
def g1 (x : Nat) : Nat := dn x 17 ^^^ dn x 19 ^^^ x / 1024
def G0 (x : Nat) : Nat := dn x 2 ^^^ dn x 13 ^^^ dn x 22
def G1 (x : Nat) : Nat := dn x 6 ^^^ dn x 11 ^^^ dn x 25
def chs (e f g : Nat) : Nat := (e &&& f) ||| ((4294967295 - e) &&& g)
def maj (a b c : Nat) : Nat := (a &&& b) ||| (a &&& c) ||| (b &&& c)
/-- Of 16 numbers, k more. -/
def sw (m : Nat → Nat) : Nat → Nat → Nat
  | 0 => m
  | k + 1 => fun i => if i = 16 + k then (sw m k k + sw m k (k + 9) + g0 (sw m k (k + 1)) + g1 (sw m k (k + 14))) % D32 else sw m k i
/-- The four bytes of number i. -/
def m4 (f : Nat → Nat) (i : Nat) : Nat := f (4 * i) * 16777216 + f (4 * i + 1) * 65536 + f (4 * i + 2) * 256 + f (4 * i + 3)
def tt (v : Nat → Nat) (c w : Nat) : Nat := (v 7 + G1 (v 4) + chs (v 4) (v 5) (v 6) + c + w) % D32
def uu (v : Nat → Nat) : Nat := (G0 (v 0) + maj (v 0) (v 1) (v 2)) % D32
/-- A round. -/
def rv (v : Nat → Nat) (c w : Nat) (i : Nat) : Nat := if i = 0 then (tt v c w + uu v) % D32 else if i = 4 then (v 3 + tt v c w) % D32 else v (i - 1)
def vs (v : Nat → Nat) (w : Nat → Nat) : Nat → Nat → Nat
  | 0 => v
  | k + 1 => rv (vs v w k) (ck k) (w k)
/-- A block of 64 bytes. -/
def bk (h : Nat → Nat) (f : Nat → Nat) (i : Nat) : Nat := (h i + vs h (sw (m4 f) 48) 64 i) % D32
def ok8 (v : Nat → Nat) : Prop := ∀ i, i < 8 → v i < D32
theorem rv_lt {v : Nat → Nat} (h : ok8 v) (c w : Nat) : ok8 (rv v c w) := fun i hi => by
  unfold rv
  split
  · exact Nat.mod_lt _ (by decide)
  · split
    · exact Nat.mod_lt _ (by decide)
    · exact h _ (by omega)
theorem vs_lt {v : Nat → Nat} (h : ok8 v) (w : Nat → Nat) : ∀ k, ok8 (vs v w k)
  | 0 => h
  | k + 1 => rv_lt (vs_lt h w k) _ _
theorem bk_lt (h f : Nat → Nat) : ok8 (bk h f) := fun _ _ => Nat.mod_lt _ (by decide)
/-- The state behind j blocks of the bytes F. -/
def bs64 (F : Nat → Nat) : Nat → Nat → Nat
  | 0 => ch0
  | j + 1 => bk (bs64 F j) (fun i => F (64 * j + i))
theorem bs64_lt (F : Nat → Nat) : ∀ j, ok8 (bs64 F j)
  | 0 => fun i hi => ch0_lt i hi
  | _ + 1 => bk_lt _ _
/-- How many blocks n bytes are. -/
def nb (n : Nat) : Nat := (n + 8) / 64 + 1
/-- The bytes with a byte 128 behind them, noughts, and how many bits they were. -/
def padS (f : Nat → Nat) (n i : Nat) : Nat := if i < n then f i else if i = n then 128 else if 64 * nb n - 8 ≤ i then n * 8 / 256 ^ (64 * nb n - 1 - i) % 256 else 0
/-- The hash's bytes. -/
def hs (v : Nat → Nat) (i : Nat) : Nat := v (i / 4) / 2 ^ (24 - 8 * (i % 4)) % 256
def shh (f : Nat → Nat) (n : Nat) : Nat → Nat := hs (bs64 (padS f n) (nb n))
theorem shh_lt (f : Nat → Nat) (n i : Nat) : shh f n i < 256 := Nat.mod_lt _ (by decide)
end Go.Proofs.YtnnodibjocilmaaDoor.SmWord
