/- Plain arithmetic on digits to the base 256. -/
import Derived.Test.YtfpeliolngfkpaaMath
namespace Go.Proofs.Ytfpeliolngfkpaa.SmWord

def dig (n i : Nat) : Nat := n / 256 ^ i % 256
def lb (n i : Nat) : Nat := n / B ^ i % B
theorem dig_lt (n i : Nat) : dig n i < 256 := Nat.mod_lt _ (by decide)
theorem B_256 : B = 256 ^ 8 := by decide
theorem M_256 : M = 256 ^ 32 := by decide
theorem lb_dig (m k : Nat) : lb m (k / 8) / 2 ^ (8 * (k % 8)) % 256 = dig m k := by
  unfold lb dig
  have h8 : k % 8 < 8 := Nat.mod_lt _ (by decide)
  have e1 : (2 : Nat) ^ (8 * (k % 8)) = 256 ^ (k % 8) := by rw [Nat.pow_mul]
  have e2 : B = 256 ^ (k % 8) * 256 ^ (8 - k % 8) := by rw [← Nat.pow_add, B_256]; congr 1; omega
  have e3 : (256 : Nat) ^ (8 - k % 8) = 256 * 256 ^ (7 - k % 8) := by rw [← Nat.pow_succ']; congr 1; omega
  have e4 : B ^ (k / 8) * 256 ^ (k % 8) = 256 ^ k := by rw [B_256, ← Nat.pow_mul, ← Nat.pow_add]; congr 1; omega
  rw [e1]
  conv => lhs; arg 1; arg 1; arg 2; rw [e2]
  rw [Nat.mod_mul_right_div_self, e3, Nat.mod_mul_right_mod, Nat.div_div_eq_div_mul, e4]

/-! Digits and their number. -/
theorem dig_congr {m n : Nat} (h : m % M = n % M) {i : Nat} (hi : i < 32) : dig m i = dig n i := by
  have k : ∀ x : Nat, dig (x % M) i = dig x i := fun x => by
    unfold dig
    have e : M = 256 ^ i * (256 * 256 ^ (31 - i)) := by rw [← Nat.pow_succ', ← Nat.pow_add, M_256]; congr 1; omega
    rw [e, Nat.mod_mul_right_div_self, Nat.mod_mul_right_mod]
  rw [← k m, ← k n, h]

/-! Sums. -/
def carry (m n k : Nat) : Nat := (m + n) / 256 ^ k - m / 256 ^ k - n / 256 ^ k
theorem carry_eq (m n k : Nat) : (m + n) / 256 ^ k = m / 256 ^ k + n / 256 ^ k + carry m n k ∧ carry m n k ≤ 1 := by
  have hp : 0 < 256 ^ k := Nat.pow_pos (by decide)
  have h := Nat.add_div (a := m) (b := n) hp
  unfold carry
  split at h <;> omega
theorem carry_zero (m n : Nat) : carry m n 0 = 0 := by simp [carry]
theorem carry_step (m n k : Nat) : (dig m k + dig n k + carry m n k) % 256 = dig (m + n) k ∧ (dig m k + dig n k + carry m n k) / 256 = carry m n (k + 1) := by
  obtain ⟨h1, _⟩ := carry_eq m n k
  obtain ⟨h2, _⟩ := carry_eq m n (k + 1)
  unfold dig
  rw [Nat.pow_succ, ← Nat.div_div_eq_div_mul, ← Nat.div_div_eq_div_mul, ← Nat.div_div_eq_div_mul] at h2
  rw [h1] at h2 ⊢
  generalize m / 256 ^ k = x at *
  generalize n / 256 ^ k = y at *
  generalize carry m n k = c at *
  generalize carry m n (k + 1) = d at *
  omega

/-! A word out of its digits, from the highest on: what part q is behind the digits from k on. -/
def acc (m k q : Nat) : Nat := if k ≤ 8 * q then lb m q else if 8 * q + 8 ≤ k then 0 else m / 256 ^ k % 256 ^ (8 * q + 8 - k)
theorem acc_zero (m q : Nat) : acc m 0 q = lb m q := by simp [acc]
theorem acc_end (m q : Nat) (hq : q < 4) : acc m 32 q = 0 := by
  unfold acc; rw [if_neg (by omega), if_pos (by omega)]
theorem acc_other (m k q : Nat) (h : k / 8 ≠ q) : acc m (k + 1) q = acc m k q := by
  unfold acc
  by_cases h1 : k + 1 ≤ 8 * q
  · rw [if_pos h1, if_pos (by omega)]
  · rw [if_neg h1]
    by_cases h2 : k ≤ 8 * q
    · omega
    · rw [if_neg h2, if_pos (by omega), if_pos (by omega)]
theorem acc_step (m k : Nat) : acc m (k + 1) (k / 8) * 256 + dig m k = acc m k (k / 8) ∧ acc m k (k / 8) < B := by
  have hB : 256 ^ 8 = B := B_256.symm
  have key : ∀ x N : Nat, x / 256 % N * 256 + x % 256 = x % (256 * N) := fun x N => by
    rw [Nat.mod_mul]; omega
  have e0 : acc m k (k / 8) = m / 256 ^ k % 256 ^ (8 * (k / 8) + 8 - k) := by
    unfold acc
    by_cases h : k ≤ 8 * (k / 8)
    · have hk : k = 8 * (k / 8) := by omega
      rw [if_pos h]
      unfold lb
      have e1 : B ^ (k / 8) = 256 ^ k := by rw [B_256, ← Nat.pow_mul, ← hk]
      rw [e1, show 8 * (k / 8) + 8 - k = 8 by omega, hB]
    · rw [if_neg h, if_neg (by omega)]
  have e1 : acc m (k + 1) (k / 8) = m / 256 ^ (k + 1) % 256 ^ (8 * (k / 8) + 8 - (k + 1)) := by
    unfold acc
    rw [if_neg (by omega)]
    by_cases h : 8 * (k / 8) + 8 ≤ k + 1
    · rw [if_pos h, show 8 * (k / 8) + 8 - (k + 1) = 0 by omega, Nat.pow_zero, Nat.mod_one]
    · rw [if_neg h]
  refine ⟨?_, ?_⟩
  · rw [e0, e1, Nat.pow_succ, ← Nat.div_div_eq_div_mul]
    unfold dig
    rw [key, ← Nat.pow_succ']
    congr 2
    omega
  · rw [e0]
    refine Nat.lt_of_lt_of_le (Nat.mod_lt _ (Nat.pow_pos (by decide))) ?_
    rw [← hB]
    exact Nat.pow_le_pow_right (by decide) (by omega)

/-! Products, row by row. -/
def rowT (m n i k : Nat) : Nat := m % 256 ^ i * n + dig m i * 256 ^ i * (n % 256 ^ k)
def rowC (m n i k : Nat) : Nat := rowT m n i k / 256 ^ (i + k) - m % 256 ^ i * n / 256 ^ (i + k)
theorem rowC_eq (m n i k : Nat) : rowT m n i k / 256 ^ (i + k) = m % 256 ^ i * n / 256 ^ (i + k) + rowC m n i k := by
  have : m % 256 ^ i * n / 256 ^ (i + k) ≤ rowT m n i k / 256 ^ (i + k) := Nat.div_le_div_right (Nat.le_add_right _ _)
  unfold rowC; omega
theorem rowT_zero (m n i : Nat) : rowT m n i 0 = m % 256 ^ i * n := by simp [rowT, Nat.mod_one]
theorem rowC_zero (m n i : Nat) : rowC m n i 0 = 0 := by unfold rowC; rw [rowT_zero]; simp
theorem rowT_succ (m n i k : Nat) : rowT m n i (k + 1) = rowT m n i k + dig m i * dig n k * 256 ^ (i + k) := by
  have e : n % 256 ^ (k + 1) = n % 256 ^ k + 256 ^ k * dig n k := by rw [Nat.pow_succ, Nat.mod_mul]; rfl
  unfold rowT
  rw [e, Nat.pow_add]
  generalize 256 ^ i = p
  generalize 256 ^ k = q
  grind
theorem row_low (m n i k : Nat) {j : Nat} (hj : j < i + k) : dig (rowT m n i (k + 1)) j = dig (rowT m n i k) j := by
  rw [rowT_succ]
  unfold dig
  have e : 256 ^ (i + k) = 256 ^ j * (256 * 256 ^ (i + k - j - 1)) := by rw [← Nat.pow_succ', ← Nat.pow_add]; congr 1; omega
  rw [e, ← Nat.mul_assoc, Nat.mul_comm _ (256 ^ j), Nat.mul_assoc, Nat.add_mul_div_left _ _ (Nat.pow_pos (by decide)), ← Nat.mul_assoc, Nat.mul_comm _ 256, Nat.mul_assoc, Nat.add_mul_mod_self_left]
theorem row_step (m n i k : Nat) : (dig (m % 256 ^ i * n) (i + k) + dig m i * dig n k + rowC m n i k) % 256 = dig (rowT m n i (k + 1)) (i + k) ∧
    (dig (m % 256 ^ i * n) (i + k) + dig m i * dig n k + rowC m n i k) / 256 = rowC m n i (k + 1) := by
  have h1 := rowC_eq m n i k
  have h2 := rowC_eq m n i (k + 1)
  have hp : 0 < 256 ^ (i + k) := Nat.pow_pos (by decide)
  have e1 : rowT m n i (k + 1) / 256 ^ (i + k) = rowT m n i k / 256 ^ (i + k) + dig m i * dig n k := by
    rw [rowT_succ, Nat.add_mul_div_right _ _ hp]
  rw [show i + (k + 1) = i + k + 1 by omega, Nat.pow_succ, ← Nat.div_div_eq_div_mul, ← Nat.div_div_eq_div_mul, e1, h1] at h2
  rw [h1] at e1
  have e3 : dig (rowT m n i (k + 1)) (i + k) = (m % 256 ^ i * n / 256 ^ (i + k) + rowC m n i k + dig m i * dig n k) % 256 := by
    show rowT m n i (k + 1) / 256 ^ (i + k) % 256 = _
    rw [e1]
  have e4 : dig (m % 256 ^ i * n) (i + k) = m % 256 ^ i * n / 256 ^ (i + k) % 256 := rfl
  rw [e3, e4]
  generalize m % 256 ^ i * n / 256 ^ (i + k) = X at *
  generalize dig m i * dig n k = Y at *
  generalize rowC m n i k = c at *
  generalize rowC m n i (k + 1) = d at *
  omega
theorem rowC_le (m n i k : Nat) : rowC m n i k ≤ 256 := by
  have : rowT m n i k / 256 ^ (i + k) ≤ m % 256 ^ i * n / 256 ^ (i + k) + 256 := by
    have hd : dig m i * 256 ^ i * (n % 256 ^ k) ≤ 256 ^ (i + k) * 256 := by
      have h1 := dig_lt m i
      have h2 : n % 256 ^ k < 256 ^ k := Nat.mod_lt _ (Nat.pow_pos (by decide))
      rw [Nat.pow_add]
      calc dig m i * 256 ^ i * (n % 256 ^ k) ≤ 256 * 256 ^ i * 256 ^ k := Nat.mul_le_mul (Nat.mul_le_mul (by omega) (Nat.le_refl _)) (by omega)
        _ = 256 ^ i * 256 ^ k * 256 := by rw [Nat.mul_comm 256, Nat.mul_assoc, Nat.mul_comm 256, Nat.mul_assoc]
    have hp : 0 < 256 ^ (i + k) := Nat.pow_pos (by decide)
    have := Nat.div_le_div_right (c := 256 ^ (i + k)) (Nat.add_le_add_left hd (m % 256 ^ i * n))
    rw [Nat.add_mul_div_left _ _ hp] at this
    exact this
  unfold rowC; omega
theorem row_end (m n i : Nat) (hi : i < 32) {j : Nat} (hj : j < 32) : dig (rowT m n i (32 - i)) j = dig (m % 256 ^ (i + 1) * n) j := by
  apply dig_congr _ hj
  have e1 : m % 256 ^ (i + 1) = m % 256 ^ i + 256 ^ i * dig m i := by rw [Nat.pow_succ, Nat.mod_mul]; rfl
  have e2 : n = n % 256 ^ (32 - i) + 256 ^ (32 - i) * (n / 256 ^ (32 - i)) := (Nat.mod_add_div _ _).symm
  have e3 : M = 256 ^ i * 256 ^ (32 - i) := by rw [← Nat.pow_add, M_256]; congr 1; omega
  have e4 : m % 256 ^ (i + 1) * n = rowT m n i (32 - i) + M * (dig m i * (n / 256 ^ (32 - i))) := by
    unfold rowT
    rw [e1, e3]
    conv => lhs; rw [Nat.add_mul]; arg 2; rw [e2]
    generalize n / 256 ^ (32 - i) = x
    generalize n % 256 ^ (32 - i) = y
    generalize 256 ^ (32 - i) = q
    generalize 256 ^ i = p
    generalize m % p * n = z
    grind
  rw [e4, Nat.add_mul_mod_self_left]
theorem row_last (m n : Nat) {j : Nat} (hj : j < 32) : dig (m % 256 ^ 32 * n) j = dig (m * n) j := by
  apply dig_congr _ hj
  rw [← M_256, Nat.mod_mul_mod]
end Go.Proofs.Ytfpeliolngfkpaa.SmWord
