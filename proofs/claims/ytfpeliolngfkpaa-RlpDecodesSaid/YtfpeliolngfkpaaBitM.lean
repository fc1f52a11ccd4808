/- Plain arithmetic on the bits of digits. -/
import Derived.Test.YtfpeliolngfkpaaDig
namespace Go.Proofs.Ytfpeliolngfkpaa.SmWord

def bitN (n i : Nat) : Nat := n / 2 ^ i % 2
theorem bitN_lt (n i : Nat) : bitN n i < 2 := Nat.mod_lt _ (by decide)
theorem dig_bit (n k : Nat) : dig n (k / 8) / 2 ^ (k % 8) % 2 = bitN n k := by
  unfold dig bitN
  have h8 : k % 8 < 8 := Nat.mod_lt _ (by decide)
  have e2 : 256 = 2 ^ (k % 8) * 2 ^ (8 - k % 8) := by rw [← Nat.pow_add, show k % 8 + (8 - k % 8) = 8 by omega]
  have e3 : (2 : Nat) ^ (8 - k % 8) = 2 * 2 ^ (7 - k % 8) := by rw [← Nat.pow_succ']; congr 1; omega
  have e4 : 256 ^ (k / 8) * 2 ^ (k % 8) = 2 ^ k := by rw [show (256 : Nat) = 2 ^ 8 from rfl, ← Nat.pow_mul, ← Nat.pow_add]; congr 1; omega
  conv => lhs; arg 1; arg 1; arg 2; rw [e2]
  rw [Nat.mod_mul_right_div_self, e3, Nat.mod_mul_right_mod, Nat.div_div_eq_div_mul, e4]
theorem M_2 : M = 2 ^ 256 := by decide
theorem bit_congr {m n : Nat} (h : m % M = n % M) {i : Nat} (hi : i < 256) : bitN m i = bitN n i := by
  have k : ∀ x : Nat, bitN (x % M) i = bitN x i := fun x => by
    unfold bitN
    have e : M = 2 ^ i * (2 * 2 ^ (255 - i)) := by rw [← Nat.pow_succ', ← Nat.pow_add, M_2]; congr 1; omega
    rw [e, Nat.mod_mul_right_div_self, Nat.mod_mul_right_mod]
  rw [← k m, ← k n, h]
theorem bitN_high {n i : Nat} (h : n < M) (hi : 256 ≤ i) : bitN n i = 0 := by
  unfold bitN
  rw [Nat.div_eq_of_lt (Nat.lt_of_lt_of_le h (by rw [M_2]; exact Nat.pow_le_pow_right (by decide) hi))]
theorem bitN_test (n i : Nat) : (bitN n i = 1) = (n.testBit i = true) := by
  unfold bitN
  rw [Nat.testBit_eq_decide_div_mod_eq]; simp
theorem bit_up (x s i : Nat) (h : s ≤ i) : bitN (x * 2 ^ s) i = bitN x (i - s) := by
  unfold bitN
  have e : 2 ^ i = 2 ^ (i - s) * 2 ^ s := by rw [← Nat.pow_add]; congr 1; omega
  rw [e, Nat.mul_div_mul_right _ _ (Nat.two_pow_pos s)]
theorem bit_up_low (x s i : Nat) (h : i < s) : bitN (x * 2 ^ s) i = 0 := by
  unfold bitN
  have e : x * 2 ^ s = 2 ^ i * (2 * (x * 2 ^ (s - i - 1))) := by
    have : 2 ^ s = 2 ^ i * (2 * 2 ^ (s - i - 1)) := by rw [← Nat.pow_succ', ← Nat.pow_add]; congr 1; omega
    rw [this]; generalize 2 ^ i = p; generalize 2 ^ (s - i - 1) = q; grind
  rw [e, Nat.mul_div_cancel_left _ (Nat.two_pow_pos i), Nat.mul_mod_right]
theorem bit_down (x s i : Nat) : bitN (x / 2 ^ s) i = bitN x (i + s) := by
  unfold bitN
  rw [Nat.div_div_eq_div_mul, ← Nat.pow_add, Nat.add_comm s i]

/-! Digits out of bits, from the highest on. -/
def accB (m k q : Nat) : Nat := if k ≤ 8 * q then dig m q else if 8 * q + 8 ≤ k then 0 else m / 2 ^ k % 2 ^ (8 * q + 8 - k)
theorem accB_zero (m q : Nat) : accB m 0 q = dig m q := by simp [accB]
theorem accB_end (m q : Nat) (hq : q < 32) : accB m 256 q = 0 := by
  unfold accB; rw [if_neg (by omega), if_pos (by omega)]
theorem accB_other (m k q : Nat) (h : k / 8 ≠ q) : accB m (k + 1) q = accB m k q := by
  unfold accB
  by_cases h1 : k + 1 ≤ 8 * q
  · rw [if_pos h1, if_pos (by omega)]
  · rw [if_neg h1]
    by_cases h2 : k ≤ 8 * q
    · omega
    · rw [if_neg h2, if_pos (by omega), if_pos (by omega)]
theorem accB_step (m k : Nat) : accB m (k + 1) (k / 8) * 2 + bitN m k = accB m k (k / 8) ∧ accB m k (k / 8) < 256 := by
  have key : ∀ x N : Nat, x / 2 % N * 2 + x % 2 = x % (2 * N) := fun x N => by
    rw [Nat.mod_mul]; omega
  have e0 : accB m k (k / 8) = m / 2 ^ k % 2 ^ (8 * (k / 8) + 8 - k) := by
    unfold accB
    by_cases h : k ≤ 8 * (k / 8)
    · have hk : k = 8 * (k / 8) := by omega
      rw [if_pos h]
      unfold dig
      have e1 : 256 ^ (k / 8) = 2 ^ k := by rw [show (256 : Nat) = 2 ^ 8 from rfl, ← Nat.pow_mul, ← hk]
      rw [e1, show 8 * (k / 8) + 8 - k = 8 by omega]
    · rw [if_neg h, if_neg (by omega)]
  have e1 : accB m (k + 1) (k / 8) = m / 2 ^ (k + 1) % 2 ^ (8 * (k / 8) + 8 - (k + 1)) := by
    unfold accB
    rw [if_neg (by omega)]
    by_cases h : 8 * (k / 8) + 8 ≤ k + 1
    · rw [if_pos h, show 8 * (k / 8) + 8 - (k + 1) = 0 by omega, Nat.pow_zero, Nat.mod_one]
    · rw [if_neg h]
  refine ⟨?_, ?_⟩
  · rw [e0, e1, Nat.pow_succ, ← Nat.div_div_eq_div_mul]
    unfold bitN
    rw [key, ← Nat.pow_succ']
    congr 2
    omega
  · rw [e0]
    refine Nat.lt_of_lt_of_le (Nat.mod_lt _ (Nat.two_pow_pos _)) ?_
    rw [show (256 : Nat) = 2 ^ 8 from rfl]
    exact Nat.pow_le_pow_right (by decide) (by omega)
end Go.Proofs.Ytfpeliolngfkpaa.SmWord
