/- Keccak in plain arithmetic: no program is named here. A state is a function of the lane's number; a round is four steps; the hash of bytes goes byte by byte. -/
import Derived.Test.YtgejfdbbapjpmaaDoorDig
namespace Go.Proofs.YtgejfdbbapjpmaaDoor.SmWord

/-- Turned up by n bits. -/
def rl (x n : Nat) : Nat := (x * 2 ^ (n % 64) % B) ||| (x / 2 ^ (64 - n % 64))
theorem B_two : B = 2 ^ 64 := by decide
theorem rl_lt {x : Nat} (n : Nat) (h : x < B) : rl x n < B := by
  unfold rl
  rw [B_two] at *
  exact Nat.or_lt_two_pow (Nat.mod_lt _ (by decide)) (Nat.lt_of_le_of_lt (Nat.div_le_self _ _) h)
theorem xor_lt {x y : Nat} (hx : x < B) (hy : y < B) : x ^^^ y < B := by
  rw [B_two] at *
  exact Nat.xor_lt_two_pow hx hy
theorem rl_zero {x : Nat} (n : Nat) (h : x < B) (hn : n % 64 = 0) : rl x n = x := by
  unfold rl
  rw [hn, Nat.pow_zero, Nat.mul_one, Nat.mod_eq_of_lt h, Nat.sub_zero, ← B_two, Nat.div_eq_of_lt h, Nat.or_zero]

def okS (S : Nat → Nat) : Prop := ∀ i, i < 25 → S i < B
def col (S : Nat → Nat) (x : Nat) : Nat := S x ^^^ S (x + 5) ^^^ S (x + 10) ^^^ S (x + 15) ^^^ S (x + 20)
theorem col_lt {S : Nat → Nat} (h : okS S) {x : Nat} (hx : x < 5) : col S x < B :=
  xor_lt (xor_lt (xor_lt (xor_lt (h _ (by omega)) (h _ (by omega))) (h _ (by omega))) (h _ (by omega))) (h _ (by omega))
/-- The first step. -/
def th (S : Nat → Nat) (i : Nat) : Nat := S i ^^^ (col S ((i % 5 + 4) % 5) ^^^ rl (col S ((i % 5 + 1) % 5)) 1)
theorem th_lt {S : Nat → Nat} (h : okS S) : okS (th S) := fun i hi =>
  xor_lt (h i hi) (xor_lt (col_lt h (Nat.mod_lt _ (by decide))) (rl_lt _ (col_lt h (Nat.mod_lt _ (by decide)))))

/-- The places to which the lanes move, from place 1 on. -/
def pos (k : Nat) : Nat := [1, 10, 7, 11, 17, 18, 3, 5, 16, 8, 21, 24, 4, 15, 23, 19, 13, 12, 2, 20, 14, 22, 9, 6, 1].getD k 0
/-- The second step's first k moves, into Z. -/
def mv (Z S : Nat → Nat) : Nat → Nat → Nat
  | 0 => Z
  | k + 1 => fun i => if i = pos (k + 1) then rl (S (pos k)) ((k + 1) * (k + 2) / 2) else mv Z S k i
def rp (S : Nat → Nat) : Nat → Nat := mv S S 24
theorem pos_lt : ∀ k, k < 25 → pos k < 25 := by decide
theorem pos_apart : ∀ k, k < 24 → ∀ j, j < 24 → pos (j + 1) = pos (k + 1) → j = k := by decide
theorem pos_all : ∀ i, i < 25 → i = 0 ∨ ∃ k, k < 24 ∧ pos (k + 1) = i := by decide
theorem pos_pos : ∀ k, k < 24 → pos (k + 1) ≠ 0 := by decide
theorem mv_there (Z S : Nat → Nat) {j : Nat} (hj : j < 24) : ∀ k, j < k → k ≤ 24 → mv Z S k (pos (j + 1)) = rl (S (pos j)) ((j + 1) * (j + 2) / 2)
  | 0, h, _ => absurd h (by omega)
  | k + 1, h, hk => by
    unfold mv
    by_cases e : j = k
    · subst e; simp
    · rw [if_neg (fun c => e (pos_apart k (by omega) j hj c)), mv_there Z S hj k (by omega) (by omega)]
theorem mv_not (Z S : Nat → Nat) {i : Nat} : ∀ k, (∀ j, j < k → pos (j + 1) ≠ i) → mv Z S k i = Z i
  | 0, _ => rfl
  | k + 1, h => by
    unfold mv
    rw [if_neg (fun e => h k (by omega) e.symm), mv_not Z S k (fun j hj => h j (by omega))]
/-- The lane that is moved next still stands where it stood. -/
theorem mv_next (S : Nat → Nat) {k : Nat} (hk : k < 24) : mv S S k (pos (k + 1)) = S (pos (k + 1)) :=
  mv_not S S k fun j hj e => absurd (pos_apart k hk j (by omega) e) (by omega)
theorem mv_any (Z S : Nat → Nat) (h : Z 0 = S 0) {i : Nat} (hi : i < 25) : mv Z S 24 i = rp S i := by
  unfold rp
  rcases pos_all i hi with rfl | ⟨k, hk, rfl⟩
  · rw [mv_not Z S 24 (fun j hj => pos_pos j hj), mv_not S S 24 (fun j hj => pos_pos j hj), h]
  · rw [mv_there Z S hk 24 hk (Nat.le_refl _), mv_there S S hk 24 hk (Nat.le_refl _)]
theorem mv_lt {Z S : Nat → Nat} (hZ : okS Z) (h : okS S) : ∀ k, k ≤ 24 → okS (mv Z S k)
  | 0, _ => hZ
  | k + 1, hk => fun i hi => by
    unfold mv
    split
    · exact rl_lt _ (h _ (pos_lt k (by omega)))
    · exact mv_lt hZ h k (by omega) i hi
/-- The places by the rule of x and y. -/
theorem pos_rule : ∀ k, k < 24 → pos (k + 1) = pos k / 5 + 5 * ((2 * (pos k % 5) + 3 * (pos k / 5)) % 5) := by decide

/-- The third step. -/
def ch (S : Nat → Nat) (i : Nat) : Nat := S i ^^^ ((B - 1 - S (i / 5 * 5 + (i % 5 + 1) % 5)) &&& S (i / 5 * 5 + (i % 5 + 2) % 5))
theorem ch_lt {S : Nat → Nat} (h : okS S) : okS (ch S) := fun i hi => by
  refine xor_lt (h i hi) (Nat.lt_of_le_of_lt Nat.and_le_right (h _ (by omega)))
/-- The fourth. -/
def io (c : Nat) (S : Nat → Nat) (i : Nat) : Nat := if i = 0 then S 0 ^^^ c else S i
theorem io_lt {S : Nat → Nat} {c : Nat} (h : okS S) (hc : c < B) : okS (io c S) := fun i hi => by
  unfold io
  split
  · exact xor_lt (h 0 (by omega)) hc
  · exact h i hi
def rd (c : Nat) (S : Nat → Nat) : Nat → Nat := io c (ch (rp (th S)))
theorem rd_lt {S : Nat → Nat} {c : Nat} (h : okS S) (hc : c < B) : okS (rd c S) := io_lt (ch_lt (mv_lt (th_lt h) (th_lt h) 24 (Nat.le_refl _))) hc
/-- The rounds' constants. -/
def kc (k : Nat) : Nat := [1, 32898, 9223372036854808714, 9223372039002292224, 32907, 2147483649, 9223372039002292353, 9223372036854808585, 138, 136, 2147516425, 2147483658, 2147516555, 9223372036854775947, 9223372036854808713, 9223372036854808579, 9223372036854808578, 9223372036854775936, 32778, 9223372039002259466, 9223372039002292353, 9223372036854808704, 2147483649, 9223372039002292232].getD k 0
theorem kc_lt : ∀ k, k < 24 → kc k < B := by decide
def tn (S : Nat → Nat) : Nat → Nat → Nat
  | 0 => S
  | k + 1 => rd (kc k) (tn S k)
theorem tn_lt {S : Nat → Nat} (h : okS S) : ∀ k, k ≤ 24 → okS (tn S k)
  | 0, _ => h
  | k + 1, hk => rd_lt (tn_lt h k (by omega)) (kc_lt k (by omega))

/-! Equal lanes make equal lanes. -/
def eqS (S T : Nat → Nat) : Prop := ∀ i, i < 25 → S i = T i
theorem col_eq {S T : Nat → Nat} (h : eqS S T) {x : Nat} (hx : x < 5) : col S x = col T x := by
  unfold col
  rw [h _ (by omega), h (x + 5) (by omega), h (x + 10) (by omega), h (x + 15) (by omega), h (x + 20) (by omega)]
theorem th_eq {S T : Nat → Nat} (h : eqS S T) : eqS (th S) (th T) := fun i hi => by
  unfold th
  rw [h i hi, col_eq h (Nat.mod_lt _ (by decide)), col_eq h (Nat.mod_lt _ (by decide))]
theorem mv_eq {Z Y S T : Nat → Nat} (hZ : eqS Z Y) (h : eqS S T) : ∀ k, k ≤ 24 → eqS (mv Z S k) (mv Y T k)
  | 0, _ => hZ
  | k + 1, hk => fun i hi => by
    unfold mv
    rw [h _ (pos_lt k (by omega)), mv_eq hZ h k (by omega) i hi]
theorem ch_eq {S T : Nat → Nat} (h : eqS S T) : eqS (ch S) (ch T) := fun i hi => by
  unfold ch
  rw [h i hi, h (i / 5 * 5 + (i % 5 + 1) % 5) (by omega), h (i / 5 * 5 + (i % 5 + 2) % 5) (by omega)]
theorem io_eq {S T : Nat → Nat} (c : Nat) (h : eqS S T) : eqS (io c S) (io c T) := fun i hi => by
  unfold io
  rw [h i hi, h 0 (by omega)]
theorem rd_eq {S T : Nat → Nat} (c : Nat) (h : eqS S T) : eqS (rd c S) (rd c T) := io_eq c (ch_eq (mv_eq (th_eq h) (th_eq h) 24 (Nat.le_refl _)))
theorem tn_eq {S T : Nat → Nat} (h : eqS S T) : ∀ k, eqS (tn S k) (tn T k)
  | 0 => h
  | k + 1 => rd_eq _ (tn_eq h k)

/-! The hash -/
/-- A byte put into the lanes. -/
def put (S : Nat → Nat) (k x : Nat) (l : Nat) : Nat := if l = k / 8 then S l ^^^ x * 2 ^ (8 * (k % 8)) else S l
theorem byte_up {x k : Nat} (h : x < 256) : x * 2 ^ (8 * (k % 8)) < B := by
  have hk : k % 8 < 8 := Nat.mod_lt _ (by decide)
  generalize k % 8 = q at *
  have hp : 2 ^ (8 * q) ≤ 2 ^ 56 := Nat.pow_le_pow_right (by decide) (by omega)
  have h2 : x * 2 ^ (8 * q) ≤ 255 * 2 ^ 56 := Nat.mul_le_mul (by omega) hp
  exact Nat.lt_of_le_of_lt h2 (by decide)
theorem put_lt {S : Nat → Nat} (h : okS S) {k x : Nat} (hx : x < 256) : okS (put S k x) := fun i hi => by
  unfold put
  split
  · exact xor_lt (h i hi) (byte_up hx)
  · exact h i hi
/-- The state behind the bytes F 0, F 1, .. -/
def ss (F : Nat → Nat) : Nat → Nat → Nat
  | 0 => fun _ => 0
  | i + 1 => if i % 136 = 135 then tn (put (ss F i) (i % 136) (F i)) 24 else put (ss F i) (i % 136) (F i)
theorem ss_lt {F : Nat → Nat} : ∀ n, (∀ i, i < n → F i < 256) → okS (ss F n)
  | 0, _ => fun _ _ => by simp [ss, B]
  | n + 1, h => by
    unfold ss
    have := put_lt (ss_lt n (fun i hi => h i (by omega))) (k := n % 136) (h n (by omega))
    split
    · exact tn_lt this 24 (Nat.le_refl _)
    · exact this
/-- What k bytes at once put into a state. -/
def tk (S : Nat → Nat) (f : Nat → Nat) : Nat → Nat → Nat
  | 0 => S
  | k + 1 => put (tk S f k) k (f k)
theorem tk_lt {S f : Nat → Nat} (hS : okS S) : ∀ k, (∀ i, i < k → f i < 256) → okS (tk S f k)
  | 0, _ => hS
  | k + 1, h => put_lt (tk_lt hS k (fun i hi => h i (by omega))) (h k (by omega))
theorem tk_ss (F : Nat → Nat) (j : Nat) : ∀ k, k < 136 → tk (ss F (136 * j)) (fun i => F (136 * j + i)) k = ss F (136 * j + k)
  | 0, _ => rfl
  | k + 1, hk => by
    unfold tk
    rw [tk_ss F j k (by omega), show 136 * j + (k + 1) = (136 * j + k) + 1 by omega, ss]
    rw [show (136 * j + k) % 136 = k by omega, if_neg (by omega)]
theorem block_ss (F : Nat → Nat) (j : Nat) : tn (tk (ss F (136 * j)) (fun i => F (136 * j + i)) 136) 24 = ss F (136 * (j + 1)) := by
  rw [show 136 * (j + 1) = (136 * j + 135) + 1 by omega, ss]
  rw [show (136 * j + 135) % 136 = 135 by omega, if_pos rfl, ← tk_ss F j 135 (by omega)]
  rfl
theorem tk_congr {S f g : Nat → Nat} : ∀ k, (∀ i, i < k → f i = g i) → tk S f k = tk S g k
  | 0, _ => rfl
  | k + 1, h => by
    unfold tk
    rw [tk_congr k (fun i hi => h i (by omega)), h k (by omega)]
/-- The bytes with a byte 1 behind them, and noughts. -/
def pd (f : Nat → Nat) (n i : Nat) : Nat := if i < n then f i else if i = n then 1 else 0
/-- And with the highest bit of the last one. -/
def pad (f : Nat → Nat) (n i : Nat) : Nat := if i = 136 * (n / 136 + 1) - 1 then pd f n i ||| 128 else pd f n i
theorem pd_lt {f : Nat → Nat} {n : Nat} (h : ∀ i, i < n → f i < 256) (i : Nat) : pd f n i < 256 := by
  unfold pd
  split
  · exact h _ (by assumption)
  · split <;> decide
theorem or_128 {x : Nat} (h : x < 256) : x ||| 128 < 256 := Nat.or_lt_two_pow (n := 8) h (by decide)
theorem pad_lt {f : Nat → Nat} {n : Nat} (h : ∀ i, i < n → f i < 256) (i : Nat) : pad f n i < 256 := by
  unfold pad
  split
  · exact or_128 (pd_lt h i)
  · exact pd_lt h i
theorem pad_own (f : Nat → Nat) {n i : Nat} (h : i < 136 * (n / 136)) : pad f n i = f i := by
  unfold pad pd
  rw [if_neg (by omega), if_pos (by omega)]
/-- The hash's bytes. -/
def hb (S : Nat → Nat) (i : Nat) : Nat := S (i / 8) / 2 ^ (8 * (i % 8)) % 256
def kk (f : Nat → Nat) (n : Nat) : Nat → Nat := hb (ss (pad f n) (136 * (n / 136 + 1)))
theorem kk_lt (f : Nat → Nat) (n i : Nat) : kk f n i < 256 := Nat.mod_lt _ (by decide)
theorem ss_congr {F G : Nat → Nat} : ∀ n, (∀ i, i < n → F i = G i) → ss F n = ss G n
  | 0, _ => rfl
  | n + 1, h => by
    unfold ss
    rw [ss_congr n (fun i hi => h i (by omega)), h n (by omega)]
theorem kk_congr {f g : Nat → Nat} {n : Nat} (h : ∀ i, i < n → f i = g i) : kk f n = kk g n := by
  have e : pad f n = pad g n := funext fun i => by
    unfold pad pd
    by_cases hi : i < n
    · rw [if_pos hi, if_pos hi, h i hi]
    · rw [if_neg hi, if_neg hi]
  unfold kk
  rw [e]
end Go.Proofs.YtgejfdbbapjpmaaDoor.SmWord
