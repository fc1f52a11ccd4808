/- Plain arithmetic on long division of a word, shifted: no program is named here. -/
import Derived.Test.YtlobchkbkdjccaaKn
import Derived.Test.YtlobchkbkdjccaaBlen
namespace Go.Proofs.Ytlobchkbkdjccaa.SmWord

theorem or_parts (a b : Nat) : num (l0 a ||| l0 b) (l1 a ||| l1 b) (l2 a ||| l2 b) (l3 a ||| l3 b) = (a ||| b) % M := by
  rw [← num_parts]
  have hB : B = 2 ^ 64 := by decide
  have d : ∀ x y : Nat, (x ||| y) / B = x / B ||| y / B := fun x y => by rw [hB]; exact Nat.or_div_two_pow
  have m : ∀ x y : Nat, (x ||| y) % B = x % B ||| y % B := fun x y => by rw [hB]; exact Nat.or_mod_two_pow
  unfold l0 l1 l2 l3
  simp only [d, m]
theorem or_apart {x s b : Nat} (hb : b < 2 ^ s) : x * 2 ^ s ||| b = x * 2 ^ s + b := Go.nat_join s (x * 2 ^ s) b (Nat.mul_mod_left _ _) hb

/-- What stands above the j lowest parts, when a rest R and a lower word L are divided. -/
def xk (R L j : Nat) : Nat := R * B ^ (4 - j) + L / B ^ j
theorem xk_top {R L : Nat} (hL : L < M) : xk R L 4 = R := by
  unfold xk
  have : L / B ^ 4 = 0 := Nat.div_eq_of_lt (by rw [show B ^ 4 = M by decide]; exact hL)
  rw [this]; simp
theorem xk_zero (R L : Nat) : xk R L 0 = R * M + L := by
  unfold xk
  rw [show B ^ (4 - 0) = M by decide, Nat.pow_zero, Nat.div_one]
theorem xk_step (R L j : Nat) (hj : j < 4) : xk R L j = xk R L (j + 1) * B + lb L j := by
  unfold xk lb
  have e : 4 - j = (4 - (j + 1)) + 1 := by omega
  have h := Nat.div_add_mod (L / B ^ j) B
  rw [Nat.div_div_eq_div_mul, ← Nat.pow_succ] at h
  rw [e, Nat.pow_succ, Nat.add_mul, ← Nat.mul_assoc]
  generalize R * B ^ (4 - (j + 1)) = z
  generalize L / B ^ j % B = y at *
  generalize L / B ^ j = u at *
  generalize L / B ^ (j + 1) = v at *
  simp only [B] at *
  omega
theorem xk_div (R L j m : Nat) (hj : j < 4) (hm : 0 < m) :
    xk R L j / m = xk R L (j + 1) / m * B + (xk R L (j + 1) % m * B + lb L j) / m ∧ xk R L j % m = (xk R L (j + 1) % m * B + lb L j) % m := by
  rw [xk_step R L j hj]
  have e := Nat.div_add_mod (xk R L (j + 1)) m
  have key : xk R L (j + 1) * B + lb L j = xk R L (j + 1) % m * B + lb L j + m * (xk R L (j + 1) / m * B) := by
    rw [← Nat.mul_assoc]
    generalize xk R L (j + 1) % m = r at *
    generalize m * (xk R L (j + 1) / m) = z at *
    rw [← e, Nat.add_mul]
    omega
  generalize xk R L (j + 1) = X at *
  rw [key, Nat.add_mul_div_left _ _ hm, Nat.add_mul_mod_self_left]
  exact ⟨Nat.add_comm _ _, rfl⟩
def qk (R L m j : Nat) : Nat := xk R L j / m * B ^ j
theorem qk_step (R L j m : Nat) (hj : j < 4) (hm : 0 < m) : qk R L m j = qk R L m (j + 1) + (xk R L (j + 1) % m * B + lb L j) / m * B ^ j := by
  unfold qk
  rw [(xk_div R L j m hj hm).1, Nat.add_mul, Nat.pow_succ, Nat.mul_assoc, Nat.mul_comm B]
theorem part_low (b y : Nat) {i j : Nat} (hb : 0 < b) (h : i < j) : y * b ^ j / b ^ i % b = 0 := by
  have e : b ^ j = b ^ i * (b * b ^ (j - i - 1)) := by rw [← Nat.pow_succ', ← Nat.pow_add]; congr 1; omega
  have e2 : y * (b ^ i * (b * b ^ (j - i - 1))) = b ^ i * (b * (y * b ^ (j - i - 1))) := by
    rw [Nat.mul_left_comm, Nat.mul_left_comm y]
  rw [e, e2, Nat.mul_div_cancel_left _ (Nat.pow_pos hb), Nat.mul_mod_right]
theorem part_up (b y : Nat) {i j : Nat} (hb : 0 < b) (h : j < i) : y * b ^ j / b ^ i % b = y / b / b ^ (i - j - 1) % b := by
  have e : b ^ i = b ^ j * (b * b ^ (i - j - 1)) := by rw [← Nat.pow_succ', ← Nat.pow_add]; congr 1; omega
  rw [e, ← Nat.div_div_eq_div_mul, Nat.mul_div_cancel _ (Nat.pow_pos hb), ← Nat.div_div_eq_div_mul]
theorem part_set (b q d j i : Nat) (hb : 0 < b) (hd : d < b) : (q * b ^ (j + 1) + d * b ^ j) / b ^ i % b = if i = j then d else q * b ^ (j + 1) / b ^ i % b := by
  have e : q * b ^ (j + 1) + d * b ^ j = (q * b + d) * b ^ j := by rw [Nat.pow_succ, Nat.add_mul, Nat.mul_assoc, Nat.mul_comm b]
  have e' : q * b ^ (j + 1) = (q * b) * b ^ j := by rw [Nat.pow_succ, Nat.mul_assoc, Nat.mul_comm b]
  rw [e, e']
  rcases Nat.lt_trichotomy i j with h | h | h
  · rw [if_neg (by omega), part_low b _ hb h, part_low b _ hb h]
  · subst h
    rw [if_pos rfl, Nat.mul_div_cancel _ (Nat.pow_pos hb), Nat.add_comm, Nat.add_mul_mod_self_right, Nat.mod_eq_of_lt hd]
  · rw [if_neg (by omega), part_up b _ hb h, part_up b _ hb h, Nat.mul_comm q b, Nat.mul_add_div hb, Nat.div_eq_of_lt hd, Nat.mul_div_cancel_left _ hb, Nat.add_zero]
/-- A part that is 0, with 0 below it, set. -/
theorem lb_set (q d j i : Nat) (hd : d < B) : lb (q * B ^ (j + 1) + d * B ^ j) i = if i = j then d else lb (q * B ^ (j + 1)) i := by
  unfold lb
  exact part_set B q d j i (by decide) hd

/-- The shift. -/
theorem dv_shift {m : Nat} (hm : m < M) (h0 : m ≠ 0) : ∃ s : Nat, s ≤ 255 ∧ bl m = 256 - s ∧ m * 2 ^ s < M ∧ M ≤ 2 * (m * 2 ^ s) := by
  obtain ⟨k, e, h1, h2⟩ := bl_spec h0
  have hk : k < 256 := by
    apply Nat.lt_of_not_le
    intro h
    have : 2 ^ 256 ≤ 2 ^ k := Nat.pow_le_pow_right (by decide) h
    rw [M_2] at hm
    omega
  refine ⟨255 - k, by omega, by omega, ?_, ?_⟩
  · have : m * 2 ^ (255 - k) < 2 ^ (k + 1) * 2 ^ (255 - k) := Nat.mul_lt_mul_of_pos_right h2 (Nat.two_pow_pos _)
    rw [← Nat.pow_add, show k + 1 + (255 - k) = 256 by omega, ← M_2] at this
    exact this
  · have : 2 ^ k * 2 ^ (255 - k) ≤ m * 2 ^ (255 - k) := Nat.mul_le_mul_right _ h1
    rw [← Nat.pow_add, show k + (255 - k) = 255 by omega] at this
    have h3 : M = 2 * 2 ^ 255 := by decide
    rw [h3]
    exact Nat.mul_le_mul_left _ this
/-- What is shifted, put together again. -/
theorem dv_join {H L s : Nat} (hs : s ≤ 256) : (H * 2 ^ s + L / 2 ^ (256 - s)) * M + L * 2 ^ s % M = (H * M + L) * 2 ^ s := by
  have e : L / 2 ^ (256 - s) = L * 2 ^ s / M := by
    rw [M_2, show (256 : Nat) = (256 - s) + s by omega, Nat.pow_add, show 256 - s + s - s = 256 - s by omega, Nat.mul_div_mul_right _ _ (Nat.two_pow_pos s)]
  have d := Nat.div_add_mod (L * 2 ^ s) M
  rw [e, Nat.add_mul, Nat.add_mul]
  rw [Nat.mul_comm M] at d
  have : H * 2 ^ s * M = H * M * 2 ^ s := Nat.mul_right_comm _ _ _
  omega
theorem dv_low {L s : Nat} (hL : L < M) (hs : s ≤ 256) : L / 2 ^ (256 - s) < 2 ^ s := by
  rw [Nat.div_lt_iff_lt_mul (Nat.two_pow_pos _), ← Nat.pow_add, show s + (256 - s) = 256 by omega, ← M_2]
  exact hL
theorem dv_rest {H m s b : Nat} (hH : H < m) (hb : b < 2 ^ s) : H * 2 ^ s + b < m * 2 ^ s := by
  have : (H + 1) * 2 ^ s ≤ m * 2 ^ s := Nat.mul_le_mul_right _ hH
  rw [Nat.add_mul] at this
  omega
end Go.Proofs.Ytlobchkbkdjccaa.SmWord
