/- Plain arithmetic: the number whose digits to the base 256 these are. -/
import Derived.Test.YtfpeliolngfkpaaBitM
namespace Go.Proofs.Ytfpeliolngfkpaa.SmWord

/-- The number with the digits g 0 .. g (k-1). -/
def val (g : Nat → Nat) : Nat → Nat
  | 0 => 0
  | k + 1 => val g k + g k * 256 ^ k
theorem val_lt {g : Nat → Nat} : ∀ {k : Nat}, (∀ i, i < k → g i < 256) → val g k < 256 ^ k
  | 0, _ => by simp [val]
  | k + 1, h => by
    have h1 := val_lt (g := g) (k := k) fun i hi => h i (by omega)
    have h2 : (g k + 1) * 256 ^ k ≤ 256 * 256 ^ k := Nat.mul_le_mul_right _ (h k (by omega))
    rw [Nat.add_mul] at h2
    rw [Nat.pow_succ', val]
    omega
theorem val_congr {g h : Nat → Nat} : ∀ {k : Nat}, (∀ i, i < k → g i = h i) → val g k = val h k
  | 0, _ => rfl
  | k + 1, e => by rw [val, val, val_congr fun i hi => e i (by omega), e k (by omega)]
theorem val_dig (a : Nat) : ∀ k : Nat, val (dig a) k = a % 256 ^ k
  | 0 => by simp [val, Nat.mod_one]
  | k + 1 => by rw [val, val_dig a k, Nat.pow_succ, Nat.mod_mul, Nat.mul_comm (dig a k)]; rfl
theorem dig_val_high {g : Nat → Nat} {k i : Nat} (h : ∀ i, i < k → g i < 256) (hi : k ≤ i) : dig (val g k) i = 0 := by
  unfold dig
  rw [Nat.div_eq_of_lt (Nat.lt_of_lt_of_le (val_lt h) (Nat.pow_le_pow_right (by decide) hi))]
theorem dig_val {g : Nat → Nat} : ∀ {k i : Nat}, (∀ i, i < k → g i < 256) → i < k → dig (val g k) i = g i
  | 0, _, _, hi => by omega
  | k + 1, i, h, hi => by
    have hl := val_lt (g := g) (k := k) fun i hi => h i (by omega)
    by_cases e : i = k
    · subst e
      unfold dig
      rw [val, Nat.add_mul_div_right _ _ (Nat.pow_pos (by decide)), Nat.div_eq_of_lt hl, Nat.zero_add, Nat.mod_eq_of_lt (h i (by omega))]
    · rw [← dig_val (k := k) (fun i hi => h i (by omega)) (show i < k by omega)]
      unfold dig
      rw [val]
      have e1 : 256 ^ k = 256 ^ i * (256 * 256 ^ (k - i - 1)) := by rw [← Nat.pow_succ', ← Nat.pow_add]; congr 1; omega
      rw [e1, show g k * (256 ^ i * (256 * 256 ^ (k - i - 1))) = 256 ^ i * (256 * (g k * 256 ^ (k - i - 1))) by generalize 256 ^ i = p; generalize 256 ^ (k - i - 1) = q; grind, Nat.add_mul_div_left _ _ (Nat.pow_pos (by decide)), Nat.add_mul_mod_self_left]
theorem B_pow (q : Nat) : B ^ q = 256 ^ (8 * q) := by rw [B_256, Nat.pow_mul]
theorem lb_other {g : Nat → Nat} {k q : Nat} (h : ∀ i, i < k + 1 → g i < 256) (hq : q ≠ k / 8) : lb (val g (k + 1)) q = lb (val g k) q := by
  unfold lb
  rw [B_pow]
  by_cases h1 : q < k / 8
  · have e1 : 256 ^ k = 256 ^ (8 * q) * (B * 256 ^ (k - 8 * q - 8)) := by rw [B_256, ← Nat.pow_add, ← Nat.pow_add]; congr 1; omega
    rw [val, e1, show g k * (256 ^ (8 * q) * (B * 256 ^ (k - 8 * q - 8))) = 256 ^ (8 * q) * (B * (g k * 256 ^ (k - 8 * q - 8))) by generalize 256 ^ (8 * q) = p; generalize 256 ^ (k - 8 * q - 8) = r; grind, Nat.add_mul_div_left _ _ (Nat.pow_pos (by decide)), Nat.add_mul_mod_self_left]
  · have e1 : val g (k + 1) < 256 ^ (8 * q) := Nat.lt_of_lt_of_le (val_lt h) (Nat.pow_le_pow_right (by decide) (by omega))
    have e2 : val g k < 256 ^ (8 * q) := Nat.lt_of_lt_of_le (val_lt fun i hi => h i (by omega)) (Nat.pow_le_pow_right (by decide) (by omega))
    rw [Nat.div_eq_of_lt e1, Nat.div_eq_of_lt e2]
theorem lb_here {g : Nat → Nat} {k : Nat} (h : ∀ i, i < k + 1 → g i < 256) :
    lb (val g k) (k / 8) < 2 ^ (8 * (k % 8)) ∧ lb (val g (k + 1)) (k / 8) = lb (val g k) (k / 8) ||| g k * 2 ^ (8 * (k % 8)) ∧ g k * 2 ^ (8 * (k % 8)) < B := by
  have hk : val g k < 256 ^ k := val_lt fun i hi => h i (by omega)
  have e0 : (2 : Nat) ^ (8 * (k % 8)) = 256 ^ (k % 8) := by rw [Nat.pow_mul]
  have e1 : 256 ^ k = B ^ (k / 8) * 256 ^ (k % 8) := by rw [B_pow, ← Nat.pow_add]; congr 1; omega
  have hB : B = 256 ^ (k % 8) * (256 * 256 ^ (7 - k % 8)) := by rw [← Nat.pow_succ', ← Nat.pow_add, B_256]; congr 1; omega
  have hp : 0 < 256 ^ (7 - k % 8) := Nat.pow_pos (by decide)
  have hle : 256 ^ (k % 8) * 256 ≤ B := by rw [hB, ← Nat.mul_assoc]; exact Nat.le_mul_of_pos_right _ hp
  have hg := h k (by omega)
  have hpos : 0 < B ^ (k / 8) := Nat.pow_pos (by decide)
  have hx : val g k / B ^ (k / 8) < 256 ^ (k % 8) := Nat.div_lt_of_lt_mul (by rw [← e1]; exact hk)
  have hmul : (g k + 1) * 256 ^ (k % 8) ≤ 256 * 256 ^ (k % 8) := Nat.mul_le_mul_right _ hg
  rw [Nat.add_mul] at hmul
  have hq : val g (k + 1) / B ^ (k / 8) = val g k / B ^ (k / 8) + g k * 256 ^ (k % 8) := by
    rw [val, e1, show g k * (B ^ (k / 8) * 256 ^ (k % 8)) = B ^ (k / 8) * (g k * 256 ^ (k % 8)) by generalize B ^ (k / 8) = p; generalize 256 ^ (k % 8) = r; grind, Nat.add_mul_div_left _ _ hpos]
  unfold lb
  rw [hq, e0]
  generalize val g k / B ^ (k / 8) = x at *
  have hb1 : x % B = x := Nat.mod_eq_of_lt (by omega)
  have hb2 : (x + g k * 256 ^ (k % 8)) % B = x + g k * 256 ^ (k % 8) := Nat.mod_eq_of_lt (by omega)
  rw [hb1, hb2]
  refine ⟨hx, ?_, by omega⟩
  rw [← e0] at hx ⊢
  rw [Nat.or_comm, Nat.mul_comm, ← Nat.two_pow_add_eq_or_of_lt hx, Nat.add_comm]
end Go.Proofs.Ytfpeliolngfkpaa.SmWord
